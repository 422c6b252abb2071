import itertools
import unittest

from reckon import all_tables, numbers, slow_mended, slow_worth
from veilsum.errors import TooFew
from veilsum.field import Table
from veilsum.shares import dealt, mended


class Dealing(unittest.TestCase):
    """Point 6."""

    def test_written_examples(self):
        self.assertEqual(dealt(Table(5, 3, 1), 2, [4]), [1, 0, 4])
        self.assertEqual(dealt(Table(7, 5, 2), 3, [1, 2]), [6, 6, 3, 4, 2])
        self.assertEqual(dealt(Table(7, 6, 2), 0, [0, 1]), [1, 4, 2, 2, 4, 1])

    def test_chance_of_noughts_deals_the_number_itself(self):
        self.assertEqual(dealt(Table(11, 7, 1), 9, [0]), [9] * 7)
        self.assertEqual(dealt(Table(11, 7, 2), 9, [0, 0]), [9] * 7)

    def test_every_table(self):
        for table in all_tables():
            for number in range(table.prime):
                chance = numbers(table.prime, table.few, number)
                told = dealt(table, number, chance)
                row = [number] + chance
                with self.subTest(table=vars(table), row=row):
                    expected = [slow_worth(table.prime, row, hand) for hand in range(1, table.hands + 1)]
                    self.assertEqual(told, expected)

    def test_chance_of_another_length_is_not_refused(self):
        table = Table(5, 3, 1)
        self.assertEqual(dealt(table, 2, []), [2, 2, 2])
        self.assertEqual(dealt(table, 2, [4, 1]), [2, 4, 3])

    def test_somewhat_beyond_the_table(self):
        self.assertEqual(dealt(Table(5, 3, 1), 7, [-1]), [1, 0, 4])


def spoiled(table, shares, hands):
    """The shares with those of these hands made wrong, each by another step."""
    told = list(shares)
    for turn, hand in enumerate(hands, start=1):
        told[hand - 1] = (told[hand - 1] + 1 + turn % (table.prime - 1)) % table.prime
    return told


def without(shares, hands):
    return [None if hand in hands else share for hand, share in enumerate(shares, start=1)]


def groups(hands, size):
    return itertools.combinations(range(1, hands + 1), size)


class Mending(unittest.TestCase):
    """Point 7."""

    def test_written_examples(self):
        table = Table(7, 5, 1)
        self.assertEqual(mended(table, [5, 0, 2, 4, 6], 0), (3, []))
        self.assertEqual(mended(table, [5, 0, 2, 4, 6], 1), (3, []))
        self.assertEqual(mended(table, [5, 1, 2, 4, 6], 1), (3, [2]))
        self.assertEqual(mended(table, [5, None, 2, 4, 0], 1), (3, [5]))
        self.assertIsNone(mended(table, [5, 1, 2, 4, 6], 0))

    def test_all_true_shares(self):
        for table in all_tables():
            shares = dealt(table, 4, numbers(table.prime, table.few, 8))
            for wrong in range((table.hands - table.few - 1) // 2 + 1):
                with self.subTest(table=vars(table), wrong=wrong):
                    self.assertEqual(mended(table, shares, wrong), (4, []))

    def test_as_many_wrong_ones_as_are_let(self):
        for table in all_tables():
            shares = dealt(table, 3, numbers(table.prime, table.few, 9))
            for wrong in range((table.hands - table.few - 1) // 2 + 1):
                for liars in groups(table.hands, wrong):
                    with self.subTest(table=vars(table), liars=liars):
                        told = mended(table, spoiled(table, shares, liars), wrong)
                        self.assertEqual(told, (3, list(liars)))

    def test_fewer_wrong_ones_than_are_let(self):
        table = Table(31, 7, 1)
        shares = dealt(table, 30, [17])
        for liar in range(1, 8):
            self.assertEqual(mended(table, spoiled(table, shares, [liar]), 2), (30, [liar]))

    def test_one_wrong_more_than_is_let(self):
        # Wrong shares may by chance fit another row, so the slow way says what is due.
        for table in [Table(5, 4, 1), Table(7, 5, 1), Table(7, 6, 2), Table(11, 7, 1)]:
            shares = dealt(table, 2, numbers(table.prime, table.few, 11))
            for wrong in range((table.hands - table.few - 1) // 2 + 1):
                for liars in groups(table.hands, wrong + 1):
                    came = spoiled(table, shares, liars)
                    fits = slow_mended(table, came, wrong)
                    with self.subTest(table=vars(table), wrong=wrong, liars=liars):
                        self.assertNotEqual(fits[:1], [(2, list(liars))])
                        self.assertEqual(mended(table, came, wrong), fits[0] if fits else None)

    def test_one_wrong_more_with_none_let_finds_no_row(self):
        for table in all_tables():
            if table.hands > table.few + 1:
                shares = dealt(table, 1, numbers(table.prime, table.few, 12))
                for liar in range(1, table.hands + 1):
                    self.assertIsNone(mended(table, spoiled(table, shares, [liar]), 0))

    def test_just_enough_hands_and_one_too_few(self):
        for table in all_tables():
            shares = dealt(table, 2, numbers(table.prime, table.few, 13))
            for wrong in range(4):
                enough = table.few + 1 + 2 * wrong
                for count in range(table.hands + 1):
                    for gone in groups(table.hands, table.hands - count):
                        came = without(shares, gone)
                        if count < enough:
                            with self.assertRaises(TooFew):
                                mended(table, came, wrong)
                        else:
                            self.assertEqual(mended(table, came, wrong), (2, []))

    def test_none_came(self):
        for table in all_tables():
            with self.assertRaises(TooFew):
                mended(table, [None] * table.hands, 0)

    def test_too_few_whatever_the_shares_are(self):
        with self.assertRaises(TooFew):
            mended(Table(7, 3, 1), [1, 2, 4], 1)
        with self.assertRaises(TooFew):
            mended(Table(31, 7, 2), [1, 2, 3, 4, 5, 6, 7], 3)

    def test_those_that_did_not_come_are_no_liars(self):
        table = Table(13, 7, 2)
        shares = dealt(table, 12, [5, 8])
        for gone in groups(7, 2):
            for liar in range(1, 8):
                if liar not in gone:
                    came = without(spoiled(table, shares, [liar]), gone)
                    self.assertEqual(mended(table, came, 1), (12, [liar]))

    def test_just_few_and_one_are_never_wrong(self):
        table = Table(5, 3, 1)
        for first, second in itertools.product(range(5), repeat=2):
            self.assertEqual(mended(table, [first, second, None], 0), ((2 * first - second) % 5, []))

    def test_nought_is_a_share_that_came(self):
        self.assertEqual(mended(Table(5, 3, 1), [0, 0, None], 0), (0, []))

    def test_all_shares_of_small_tables(self):
        tries = [(Table(5, 3, 1), 0), (Table(5, 4, 1), 0), (Table(5, 4, 1), 1)]
        for table, wrong in tries:
            for shares in itertools.product([None, 0, 1, 2, 3, 4], repeat=table.hands):
                came = list(shares)
                if len(came) - came.count(None) < table.few + 1 + 2 * wrong:
                    with self.assertRaises(TooFew):
                        mended(table, came, wrong)
                    continue
                fits = slow_mended(table, came, wrong)
                self.assertLessEqual(len(fits), 1)
                self.assertEqual(mended(table, came, wrong), fits[0] if fits else None)

    def test_mixed_shares_with_few_of_two(self):
        table = Table(7, 6, 2)
        for seed in range(40):
            for wrong in (0, 1):
                came = numbers(7, 6, seed)
                if seed % 2:
                    came[seed % 6] = None
                fits = slow_mended(table, came, wrong)
                self.assertEqual(mended(table, came, wrong), fits[0] if fits else None)

    def test_a_share_beyond_the_table_is_wrong(self):
        table = Table(7, 5, 1)
        self.assertEqual(mended(table, [5, 7, 2, 4, 6], 1), (3, [2]))
        self.assertIsNone(mended(table, [5, 7, 2, 4, 6], 0))

    def test_a_share_beyond_the_last_hand_is_no_hands(self):
        self.assertEqual(mended(Table(7, 5, 1), [5, 0, 2, 4, 6, 6, 6], 0), (3, []))

    def test_more_wrong_ones_let_than_any_table_bears(self):
        with self.assertRaises(TooFew):
            mended(Table(31, 7, 1), [1] * 7, 4)


if __name__ == "__main__":
    unittest.main()

import itertools
import unittest

from reckon import PRIMES, all_tables, numbers, slow_worth
from veilsum.errors import AlikePoints, BadTable, Nought
from veilsum.field import Table, back, through, weights, worth


class Tables(unittest.TestCase):
    """Point 2."""

    def test_all_tables_about_the_bounds(self):
        for prime, hands, few in itertools.product(range(-7, 44), range(-1, 10), range(-1, 5)):
            good = prime in PRIMES and hands in (3, 4, 5, 6, 7) and hands < prime
            good = good and few in (1, 2) and few + few < hands
            with self.subTest(prime=prime, hands=hands, few=few):
                if good:
                    table = Table(prime, hands, few)
                    self.assertEqual((table.prime, table.hands, table.few), (prime, hands, few))
                else:
                    with self.assertRaises(BadTable):
                        Table(prime, hands, few)

    def test_arguments_go_by_their_names(self):
        table = Table(few=2, hands=5, prime=11)
        self.assertEqual((table.prime, table.hands, table.few), (11, 5, 2))

    def test_written_examples(self):
        for good in [(5, 3, 1), (5, 4, 1), (7, 5, 2), (7, 6, 2), (11, 7, 2), (31, 7, 1)]:
            Table(*good)
        for bad in [
            (2, 3, 1), (3, 3, 1), (4, 3, 1), (6, 3, 1), (9, 3, 1), (25, 3, 1), (37, 3, 1),
            (0, 3, 1), (-5, 3, 1),
            (31, 2, 1), (31, 8, 1), (31, 0, 1), (5, 5, 1), (7, 7, 1), (5, 6, 1),
            (31, 7, 0), (31, 7, 3), (31, 7, -1), (31, 4, 2), (31, 3, 2),
        ]:
            with self.subTest(bad=bad), self.assertRaises(BadTable):
                Table(*bad)


class Backs(unittest.TestCase):
    """Point 3, the back of a number."""

    def test_each_number_of_each_prime(self):
        for prime in PRIMES:
            table = Table(prime, 3, 1)
            for number in range(1, prime):
                with self.subTest(prime=prime, number=number):
                    told = back(table, number)
                    self.assertIn(told, range(1, prime))
                    self.assertEqual(told * number % prime, 1)

    def test_written_examples(self):
        self.assertEqual(back(Table(5, 3, 1), 2), 3)
        self.assertEqual(back(Table(7, 3, 1), 6), 6)
        self.assertEqual(back(Table(31, 3, 1), 2), 16)

    def test_nought_has_none(self):
        for prime in PRIMES:
            with self.subTest(prime=prime), self.assertRaises(Nought):
                back(Table(prime, 3, 1), 0)

    def test_somewhat_beyond_the_table(self):
        table = Table(5, 3, 1)
        self.assertEqual(back(table, 7), 3)
        self.assertEqual(back(table, -1), 4)
        with self.assertRaises(Nought):
            back(table, 5)


class Worths(unittest.TestCase):
    """Point 3, the worth of a row."""

    def test_empty_row(self):
        for prime in PRIMES:
            table = Table(prime, 3, 1)
            self.assertEqual([worth(table, [], at) for at in range(prime)], [0] * prime)

    def test_written_examples(self):
        table = Table(7, 3, 1)
        self.assertEqual(worth(table, [3], 5), 3)
        self.assertEqual(worth(table, [3, 2], 0), 3)
        self.assertEqual(worth(table, [3, 2], 2), 0)
        self.assertEqual(worth(table, [1, 2, 3], 2), 3)
        self.assertEqual(worth(table, [0, 0, 1], 3), 2)
        self.assertEqual(worth(table, [1, 2, 0, 0], 1), 3)

    def test_against_the_plain_sum(self):
        for prime in PRIMES:
            table = Table(prime, 3, 1)
            for length in range(10):
                row = numbers(prime, length, length)
                for at in range(prime):
                    with self.subTest(prime=prime, row=row, at=at):
                        self.assertEqual(worth(table, row, at), slow_worth(prime, row, at))

    def test_somewhat_beyond_the_table(self):
        self.assertEqual(worth(Table(5, 3, 1), [9, -1], 8), 1)
        self.assertEqual(worth(Table(5, 3, 1), [9], 1), 4)


class Throughs(unittest.TestCase):
    """Point 4."""

    def test_through_none(self):
        for table in all_tables():
            self.assertEqual(through(table, []), [])

    def test_written_examples(self):
        table = Table(7, 3, 1)
        self.assertEqual(through(table, [(4, 6)]), [6])
        self.assertEqual(through(table, [(0, 0)]), [0])
        self.assertEqual(through(table, [(1, 5), (2, 0)]), [3, 2])
        self.assertEqual(through(table, [(2, 0), (1, 5)]), [3, 2])
        self.assertEqual(through(table, [(0, 1), (1, 6), (2, 3)]), [1, 2, 3])

    def test_as_long_as_there_are_points(self):
        table = Table(11, 3, 1)
        self.assertEqual(through(table, [(x, 4) for x in range(6)]), [4, 0, 0, 0, 0, 0])
        self.assertEqual(through(table, [(x, 0) for x in range(11)]), [0] * 11)
        self.assertEqual(through(table, [(x, x) for x in (9, 3, 5)]), [0, 1, 0])

    def test_the_row_comes_back(self):
        for prime in PRIMES:
            table = Table(prime, 3, 1)
            for length in range(prime + 1):
                row = numbers(prime, length, 3 * length + 1)
                turn = length % prime
                places = [(turn + 2 * step) % prime for step in range(length)]
                points = [(x, slow_worth(prime, row, x)) for x in places]
                with self.subTest(prime=prime, points=points):
                    self.assertEqual(through(table, points), row)

    def test_any_heights_are_met(self):
        for prime in PRIMES:
            table = Table(prime, 3, 1)
            points = list(zip(range(prime - 1, -1, -1), numbers(prime, prime, 5)))
            row = through(table, points)
            self.assertEqual(len(row), prime)
            self.assertTrue(all(0 <= number < prime for number in row))
            self.assertEqual([(x, slow_worth(prime, row, x)) for x, _ in points], points)

    def test_a_place_twice(self):
        table = Table(11, 4, 1)
        for points in [
            [(3, 4), (3, 4)],
            [(3, 4), (3, 5)],
            [(0, 0), (0, 0)],
            [(0, 0), (0, 1)],
            [(1, 2), (2, 2), (1, 2)],
            [(1, 2), (2, 2), (1, 3)],
            [(5, 1), (1, 2), (2, 2), (2, 2), (7, 0)],
        ]:
            with self.subTest(points=points), self.assertRaises(AlikePoints):
                through(table, points)

    def test_a_place_twice_by_the_prime(self):
        with self.assertRaises(AlikePoints):
            through(Table(5, 3, 1), [(1, 2), (6, 2)])

    def test_equal_heights_are_no_matter(self):
        self.assertEqual(through(Table(11, 4, 1), [(3, 4), (4, 4)]), [4, 0])


class Weights(unittest.TestCase):
    """Point 5."""

    def test_written_examples(self):
        self.assertEqual(weights(Table(5, 3, 1)), [3, 2, 1])
        self.assertEqual(weights(Table(7, 3, 1)), [3, 4, 1])
        self.assertEqual(weights(Table(31, 4, 1)), [4, 25, 4, 30])

    def test_every_power_that_is_short_enough(self):
        for table in all_tables():
            told = weights(table)
            self.assertEqual(len(told), table.hands)
            self.assertTrue(all(0 <= number < table.prime for number in told))
            for power in range(table.hands):
                with self.subTest(table=vars(table), power=power):
                    total = sum(told[hand - 1] * hand**power for hand in range(1, table.hands + 1))
                    self.assertEqual(total % table.prime, 1 if power == 0 else 0)

    def test_rows_of_all_lengths(self):
        for table in all_tables():
            told = weights(table)
            for length in range(table.hands + 1):
                row = numbers(table.prime, length, length + 40)
                total = sum(
                    part * slow_worth(table.prime, row, hand) for hand, part in enumerate(told, start=1)
                )
                with self.subTest(table=vars(table), row=row):
                    self.assertEqual(total % table.prime, slow_worth(table.prime, row, 0))


if __name__ == "__main__":
    unittest.main()

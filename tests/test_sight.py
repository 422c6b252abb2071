import itertools
import unittest

from reckon import (
    SlowRun, all_tables, mixed_chance, mixed_inputs, mixed_steps, numbers, slow_exchanged, slow_veil, slow_worth, uses,
)
from veilsum.errors import BadChance, BadHands, BadInputs, BadSteps, NoVeil
from veilsum.field import Table
from veilsum.rounds import run
from veilsum.sight import exchanged, seen, veil

SMALL = Table(5, 3, 1)
WIDE = Table(7, 5, 2)

# For the table of 3 hands.
BAD_HANDS = [[0], [4], [-1], [5], [2, 1], [3, 1], [1, 1], [1, 2, 2], [3, 2, 1], [0, 1], [1, 2, 4], [1, 2, 3, 3]]


def groups(table, sizes):
    return [list(some) for size in sizes for some in itertools.combinations(range(1, table.hands + 1), size)]


class Seen(unittest.TestCase):
    """Point 12."""

    # The run of the product in test_rounds.py, opened.
    STEPS = [("in", 1), ("in", 2), ("mul", 0, 1), ("open", 2)]
    INPUTS = [[2, 4], [3], [1]]
    CHANCE = [1, 4, 0, 2, 3]

    def test_one_hand(self):
        letters = [(0, 1, 3, 0), (1, 2, 3, 0), (2, 1, 3, 1), (2, 2, 3, 0), (3, 1, 3, 3), (3, 2, 3, 0)]
        self.assertEqual(seen(SMALL, self.STEPS, self.INPUTS, self.CHANCE, [3]), ([[]], [3], letters))

    def test_two_hands_get_letters_from_one_another_too(self):
        letters = [
            (0, 1, 2, 4), (1, 2, 1, 2), (2, 1, 2, 1), (2, 2, 1, 1), (2, 3, 1, 3), (2, 3, 2, 1),
            (3, 1, 2, 3), (3, 2, 1, 0), (3, 3, 1, 2), (3, 3, 2, 2),
        ]
        told = seen(SMALL, self.STEPS, self.INPUTS, self.CHANCE, [1, 2])
        self.assertEqual(told, ([[2], [3]], [1, 4, 0, 2], letters))

    def test_no_hand(self):
        self.assertEqual(seen(SMALL, self.STEPS, self.INPUTS, self.CHANCE, []), ([], [], []))

    def test_all_hands(self):
        letters = run(SMALL, self.STEPS, self.INPUTS, self.CHANCE)[1]
        told = seen(SMALL, self.STEPS, self.INPUTS, self.CHANCE, [1, 2, 3])
        self.assertEqual(told, ([[2], [3], []], self.CHANCE, letters))

    def test_chance_in_the_order_of_use(self):
        table = Table(11, 5, 2)
        steps = [("in", 4), ("anew", 0), ("in", 1), ("in", 4)]
        chance = [1, 2, 3, 4, 5, 6, 7, 8, 9, 10, 0, 1, 2, 3, 6, 5]
        inputs = [[9], [], [], [8, 7], []]
        told = seen(table, steps, inputs, chance, [1, 4])
        self.assertEqual(told[:2], ([[9], [8, 7]], [1, 2, 3, 4, 9, 10, 2, 3, 6, 5]))
        self.assertEqual(seen(table, steps, inputs, chance, [2, 4])[:2], ([[], [8, 7]], [1, 2, 5, 6, 9, 10, 6, 5]))

    def test_mixed_reckonings(self):
        for table in all_tables():
            steps = mixed_steps(table, 12, 20)
            inputs = mixed_inputs(table, steps, 21, spare=2)
            chance = mixed_chance(table, steps, 22)
            slow = SlowRun(table, steps, inputs, chance)
            letters = slow.letters()
            for some in groups(table, range(table.hands + 1)):
                own = [inputs[hand - 1][:uses(steps, hand)] for hand in some]
                came = [letter for letter in letters if letter[2] in some]
                with self.subTest(table=vars(table), some=some):
                    self.assertEqual(seen(table, steps, inputs, chance, some), (own, slow.chance_of(some), came))

    def test_bad_hands(self):
        for some in BAD_HANDS:
            with self.subTest(some=some), self.assertRaises(BadHands):
                seen(SMALL, self.STEPS, self.INPUTS, self.CHANCE, some)

    def test_order_where_several_are_due(self):
        all_steps = [(self.STEPS, None), ([], BadSteps), ([("in", 4)], BadSteps), ([("open", 0)], BadSteps)]
        all_inputs = [(self.INPUTS, None), ([[2], [3]], BadInputs), ([[], [3], []], BadInputs), ([[2], [3], [5]], BadInputs)]
        all_chance = [(self.CHANCE, None), ([1, 4, 0, 2], BadChance), ([1, 4, 0, 2, 5], BadChance)]
        all_some = [([1, 2, 3], None), ([], None)] + [(some, BadHands) for some in BAD_HANDS]
        for tries in itertools.product(all_steps, all_inputs, all_chance, all_some):
            arguments = [value for value, _ in tries]
            due = [error for _, error in tries if error is not None]
            with self.subTest(arguments=arguments):
                if due:
                    with self.assertRaises(due[0]):
                        seen(SMALL, *arguments)
                else:
                    self.assertEqual(len(seen(SMALL, *arguments)[0]), len(arguments[3]))


class Veils(unittest.TestCase):
    """Point 13, the veil."""

    def test_written_examples(self):
        self.assertEqual(veil(SMALL, [3]), [1, 3])
        self.assertEqual(veil(SMALL, []), [1, 0])
        self.assertEqual(veil(WIDE, []), [1, 0, 0])
        self.assertEqual(veil(WIDE, [1]), [1, 6, 0])
        self.assertEqual(veil(WIDE, [1, 3]), [1, 1, 5])

    def test_every_table(self):
        for table in all_tables():
            for some in groups(table, range(table.few + 1)):
                told = veil(table, some)
                with self.subTest(table=vars(table), some=some):
                    self.assertEqual(told, slow_veil(table, some))
                    noughts = [at for at in range(table.prime) if slow_worth(table.prime, told, at) == 0]
                    self.assertEqual(noughts, some)

    def test_more_hands_than_few(self):
        for table in all_tables():
            for some in groups(table, range(table.few + 1, table.hands + 1)):
                with self.subTest(table=vars(table), some=some), self.assertRaises(NoVeil):
                    veil(table, some)

    def test_bad_hands_first(self):
        for some in BAD_HANDS:
            with self.subTest(some=some), self.assertRaises(BadHands):
                veil(SMALL, some)


def tail_of(table, ahead, length, seed):
    """Mixed steps without an open, set behind the ones ahead."""
    mixed = mixed_steps(table, length, seed, words=["in", "fix", "sum", "less", "by", "mul", "mul", "anew"])
    shift = len(ahead)
    found = []
    for word, *rest in mixed:
        if word in ("sum", "less", "mul"):
            # One is named as it is: it may be one of the steps ahead, so that the two parts mix.
            rest = [rest[0], rest[1] + shift]
        elif word in ("by", "anew"):
            rest = [rest[0] + shift] + rest[1:]
        found.append((word, *rest))
    return ahead + found


def agreeing(table, some, seed, length=8):
    """A reckoning and two rows of inputs that agree for these hands, though much in them is unlike."""
    outside = [hand for hand in range(1, table.hands + 1) if hand not in some]
    first, second = outside[seed % len(outside)], outside[(seed // 2) % len(outside)]
    ahead = [("in", first), ("in", second), ("sum", 0, 1), ("open", 2), ("mul", 3, 0), ("open", 3)]
    steps = tail_of(table, ahead, length, seed)
    inputs = mixed_inputs(table, steps, seed, spare=1)
    others = mixed_inputs(table, steps, seed + 1, spare=2)
    for hand in some:
        used = uses(steps, hand)
        others[hand - 1][:used] = inputs[hand - 1][:used]
    # Only the sum of the first two inputs is opened.
    step = 1 + seed % (table.prime - 1)
    if first == second:
        others[first - 1][0] = (inputs[first - 1][0] + step) % table.prime
        others[first - 1][1] = (inputs[first - 1][1] - step) % table.prime
    else:
        others[first - 1][0] = (inputs[first - 1][0] + step) % table.prime
        others[second - 1][0] = (inputs[second - 1][0] - step) % table.prime
    return steps, inputs, others


def agreements():
    """On every table, for all groups of at most few hands."""
    for table in all_tables():
        for seed, some in enumerate(groups(table, range(table.few + 1)), start=table.prime):
            steps, inputs, others = agreeing(table, some, seed)
            yield table, steps, inputs, others, mixed_chance(table, steps, seed), some


class Exchanged(unittest.TestCase):
    """Points 13 and 14."""

    def test_an_in_by_one_outside(self):
        # The veil of hand 3 is 1 and 3; what is dealt grows by 2.
        self.assertEqual(exchanged(SMALL, [("in", 1)], [[2], [], []], [[4], [], []], [1], [3]), [2])
        # The veil of hands 1 and 3 is 1, 1 and 5.
        row = [[], [4], [], [], []]
        self.assertEqual(exchanged(WIDE, [("in", 2)], row, [[], [6], [], [], []], [2, 6], [1, 3]), [4, 2])

    def test_a_product(self):
        # The products of the shares are 1 4 0 for the one and 2 3 0 for the other.
        steps = [("in", 1), ("in", 2), ("mul", 0, 1)]
        told = exchanged(SMALL, steps, [[2], [3], []], [[4], [3], []], [1, 4, 0, 2, 3], [3])
        self.assertEqual(told, [2, 4, 3, 4, 3])

    def test_the_chance_of_an_anew_stays(self):
        steps = [("in", 1), ("anew", 0)]
        told = exchanged(SMALL, steps, [[2], [], []], [[4], [], []], [1, 4, 0, 2], [3])
        self.assertEqual(told, [2, 4, 0, 2])

    def test_no_hand_needs_no_change(self):
        steps, inputs, others = agreeing(WIDE, [], 3)
        chance = mixed_chance(WIDE, steps, 3)
        self.assertEqual(exchanged(WIDE, steps, inputs, others, chance, []), chance)

    def test_the_same_inputs_need_no_change(self):
        for table, steps, inputs, _, chance, some in agreements():
            again = [list(own) for own in inputs]
            self.assertEqual(exchanged(table, steps, inputs, again, chance, some), chance)

    def test_it_is_the_exchange_that_the_document_tells(self):
        for table, steps, inputs, others, chance, some in agreements():
            with self.subTest(table=vars(table), steps=steps, some=some):
                due = slow_exchanged(table, steps, inputs, others, chance, some)
                self.assertEqual(exchanged(table, steps, inputs, others, chance, some), due)

    def test_the_hands_see_the_very_same(self):
        unlike = 0
        for table, steps, inputs, others, chance, some in agreements():
            told = exchanged(table, steps, inputs, others, chance, some)
            unlike += told != chance
            with self.subTest(table=vars(table), steps=steps, some=some):
                here = seen(table, steps, inputs, chance, some)
                self.assertEqual(seen(table, steps, others, told, some), here)
        self.assertGreater(unlike, 200)

    def test_there_and_back(self):
        for table, steps, inputs, others, chance, some in agreements():
            there = exchanged(table, steps, inputs, others, chance, some)
            with self.subTest(table=vars(table), steps=steps, some=some):
                self.assertEqual(exchanged(table, steps, others, inputs, there, some), chance)

    def test_reckonings_of_24_steps(self):
        for table, some in [(SMALL, [2]), (WIDE, [2, 5]), (Table(31, 7, 2), [1, 7]), (Table(11, 7, 2), [4])]:
            for seed in range(4):
                steps, inputs, others = agreeing(table, some, seed, length=18)
                self.assertEqual(len(steps), 24)
                chance = mixed_chance(table, steps, seed)
                there = exchanged(table, steps, inputs, others, chance, some)
                here = seen(table, steps, inputs, chance, some)
                self.assertEqual(seen(table, steps, others, there, some), here)
                self.assertEqual(exchanged(table, steps, others, inputs, there, some), chance)

    def test_all_chance_to_all_chance(self):
        steps = [("in", 1), ("mul", 0, 0), ("open", 1)]
        for some in ([], [2], [3]):
            met = set()
            for chance in itertools.product(range(5), repeat=4):
                told = exchanged(SMALL, steps, [[2], [], []], [[3], [], []], list(chance), some)
                self.assertEqual(told, slow_exchanged(SMALL, steps, [[2], [], []], [[3], [], []], list(chance), some))
                met.add(tuple(told))
            self.assertEqual(len(met), 5**4)


class Agreement(unittest.TestCase):
    """Point 13, which rows of inputs agree."""

    STEPS = [("in", 1), ("in", 2), ("in", 3), ("sum", 0, 1), ("open", 3), ("less", 2, 0), ("open", 5)]
    INPUTS = [[1], [2], [3]]

    def agrees(self, steps, inputs, others, some, chance=None):
        chance = [1, 4, 2] if chance is None else chance
        try:
            exchanged(SMALL, steps, inputs, others, chance, some)
        except NoVeil:
            return False
        return True

    def test_all_other_inputs(self):
        for others in itertools.product(range(5), repeat=3):
            for some in ([], [1], [2], [3]):
                a, b, c = others
                same = (a + b) % 5 == 3 and (c - a) % 5 == 2
                same = same and all(others[hand - 1] == self.INPUTS[hand - 1][0] for hand in some)
                with self.subTest(others=others, some=some):
                    self.assertEqual(self.agrees(self.STEPS, self.INPUTS, [[a], [b], [c]], some), same)

    def test_each_open_for_itself(self):
        steps = [("in", 1), ("in", 2), ("open", 0), ("open", 1)]
        self.assertFalse(self.agrees(steps, [[1], [2], []], [[2], [1], []], [3], [0, 0]))
        self.assertTrue(self.agrees(steps, [[1], [2], []], [[1], [2], []], [3], [0, 0]))

    def test_inputs_not_used_are_no_matter(self):
        steps = [("in", 1), ("in", 2)]
        self.assertTrue(self.agrees(steps, [[1, 4], [2], [3]], [[1, 0, 2], [0, 1], []], [1], [0, 0]))
        self.assertTrue(self.agrees(steps, [[1, 4], [2], [3]], [[1], [0, 1], [2]], [3], [0, 0]))
        self.assertFalse(self.agrees(steps, [[4, 1], [2], [3]], [[1, 4], [2], [3]], [1], [0, 0]))

    def test_later_inputs_of_a_hand_count_too(self):
        steps = [("in", 1), ("in", 1)]
        self.assertFalse(self.agrees(steps, [[1, 4], [], []], [[1, 3], [], []], [1], [0, 0]))
        self.assertTrue(self.agrees(steps, [[1, 4], [], []], [[1, 3], [], []], [2], [0, 0]))

    def test_the_same_input_veils_nothing_that_is_unlike_when_opened(self):
        steps = [("in", 1), ("in", 2), ("mul", 0, 1), ("open", 2)]
        chance = [0, 1, 2, 3, 4]
        self.assertTrue(self.agrees(steps, [[2], [3], []], [[1], [1], []], [3], chance))
        self.assertFalse(self.agrees(steps, [[2], [3], []], [[1], [2], []], [3], chance))
        self.assertFalse(self.agrees(steps, [[2], [3], []], [[2], [2], []], [1], chance))

    def test_more_hands_than_few(self):
        for table in all_tables():
            for some in groups(table, [table.few + 1, table.hands]):
                inputs = [[1] for _ in range(table.hands)]
                with self.assertRaises(NoVeil):
                    exchanged(table, [("in", 1)], inputs, inputs, numbers(table.prime, table.few, 1), some)

    def test_order_where_several_are_due(self):
        all_steps = [(self.STEPS, None), ([], BadSteps), ([("in", 4)], BadSteps), ([("in", 1), ("open", 1)], BadSteps)]
        all_inputs = [(self.INPUTS, None), ([[1], [2]], BadInputs), ([[1], [], [3]], BadInputs), ([[1], [2], [5]], BadInputs)]
        all_chance = [([1, 4, 2], None), ([1, 4], BadChance), ([1, 4, 2, 2], BadChance), ([1, 4, -1], BadChance)]
        all_others = [
            (self.INPUTS, None), ([[0], [3], [2]], None), ([[1], [2], [4]], None),
            ([[1], [2]], BadInputs), ([[1], [2], [3], []], BadInputs), ([[], [2], [3]], BadInputs),
            ([[1, 5], [2], [3]], BadInputs), ([[1], [-1], [3]], BadInputs),
        ]
        all_some = [([], None), ([2], None), ([1, 2], NoVeil), ([1, 2, 3], NoVeil)]
        all_some += [(some, BadHands) for some in BAD_HANDS]
        for tries in itertools.product(all_steps, all_inputs, all_chance, all_others, all_some):
            steps, inputs, chance, others, some = [value for value, _ in tries]
            due = [error for _, error in tries if error is not None]
            if others == [[0], [3], [2]] and some == [2] or others == [[1], [2], [4]]:
                due.append(NoVeil)
            with self.subTest(steps=steps, inputs=inputs, chance=chance, others=others, some=some):
                if due:
                    with self.assertRaises(due[0]):
                        exchanged(SMALL, steps, inputs, others, chance, some)
                else:
                    self.assertEqual(len(exchanged(SMALL, steps, inputs, others, chance, some)), 3)


if __name__ == "__main__":
    unittest.main()

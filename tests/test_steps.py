import itertools
import unittest

from reckon import SlowRun, all_tables, mixed_chance, mixed_inputs, mixed_steps, slow_needs
from veilsum.errors import BadInputs, BadSteps
from veilsum.field import Table
from veilsum.steps import needs, plain, right

SMALL = Table(5, 3, 1)
WIDE = Table(7, 5, 2)

# One step of each word behind two ins, and what each makes of the inputs 3 and 4 by the prime 7.
EIGHT = [
    ("in", 1),
    ("in", 5),
    ("fix", 6),
    ("sum", 0, 1),
    ("less", 0, 1),
    ("by", 1, 5),
    ("mul", 0, 1),
    ("anew", 6),
    ("open", 7),
]
EIGHT_INPUTS = [[3], [], [], [], [4]]
EIGHT_MADE = [3, 4, 6, 0, 6, 6, 5, 5, 5]

# What each word may name behind an in of hand 1 and a fix, and what it may not, on a table of 3 hands by 5.
WRONG_STEPS = [
    ("in", 0), ("in", 4), ("in", -1), ("in", 5),
    ("fix", -1), ("fix", 5), ("fix", 6),
    ("sum", 2, 0), ("sum", 0, 2), ("sum", 3, 0), ("sum", 0, 3), ("sum", -1, 0), ("sum", 0, -1), ("sum", 2, 2),
    ("less", 2, 0), ("less", 0, 2), ("less", 3, 0), ("less", 0, 3), ("less", -1, 0), ("less", 0, -1),
    ("by", 2, 1), ("by", 3, 1), ("by", -1, 1), ("by", 0, -1), ("by", 0, 5), ("by", 0, 6), ("by", 2, 5),
    ("mul", 2, 0), ("mul", 0, 2), ("mul", 3, 0), ("mul", 0, 3), ("mul", -1, 0), ("mul", 0, -1),
    ("anew", 2), ("anew", 3), ("anew", -1),
    ("open", 2), ("open", 3), ("open", -1),
]
RIGHT_STEPS = (
    [("in", hand) for hand in (1, 2, 3)]
    + [("fix", number) for number in range(5)]
    + [(word, a, b) for word in ("sum", "less", "mul") for a in (0, 1) for b in (0, 1)]
    + [("by", a, number) for a in (0, 1) for number in range(5)]
    + [(word, a) for word in ("anew", "open") for a in (0, 1)]
)


def fixes(length):
    return [("fix", 1) for _ in range(length)]


def wrong_reckonings():
    """For the small table, with the step that is wrong in the midst of right ones."""
    found = [[], fixes(25), fixes(26), fixes(40)]
    for step in WRONG_STEPS:
        found.append([("in", 1), ("fix", 2), step])
        found.append([("in", 1), ("fix", 2), step, ("fix", 0), ("fix", 1)])
    found.extend([[(word, 0)] for word in ("anew", "open")])
    found.extend([[(word, 0, 0)] for word in ("sum", "less", "mul", "by")])
    return found


class Right(unittest.TestCase):
    """Point 8, which reckonings are right."""

    def test_all_eight_words(self):
        self.assertIs(right(WIDE, EIGHT), True)

    def test_each_right_step(self):
        for step in RIGHT_STEPS:
            with self.subTest(step=step):
                self.assertIs(right(SMALL, [("in", 1), ("fix", 2), step]), True)

    def test_each_wrong_reckoning(self):
        for steps in wrong_reckonings():
            with self.subTest(steps=steps):
                self.assertIs(right(SMALL, steps), False)

    def test_from_1_to_24_steps(self):
        for length in range(1, 25):
            self.assertIs(right(SMALL, fixes(length)), True)
            self.assertIs(right(SMALL, [("in", 1)] + [("mul", place, place) for place in range(length - 1)]), True)
        for length in (0, 25, 26, 48):
            self.assertIs(right(SMALL, fixes(length)), False)

    def test_hands_and_numbers_are_those_of_the_table(self):
        for table in all_tables():
            for value in range(-2, 34):
                with self.subTest(table=vars(table), value=value):
                    is_number = value in range(table.prime)
                    self.assertIs(right(table, [("in", value)]), value in range(1, table.hands + 1))
                    self.assertIs(right(table, [("fix", value)]), is_number)
                    self.assertIs(right(table, [("fix", 0), ("by", 0, value)]), is_number)

    def test_named_steps_at_every_place(self):
        for place, named in itertools.product(range(24), range(-2, 26)):
            earlier = 0 <= named < place
            for step in [("anew", named), ("open", named), ("by", named, 1)]:
                self.assertIs(right(SMALL, fixes(place) + [step]), earlier)
            for word in ("sum", "less", "mul"):
                for step in [(word, named, 0), (word, 0, named)]:
                    self.assertIs(right(SMALL, fixes(place) + [step]), earlier and place > 0)

    def test_other_words_and_forms(self):
        for step in [("add", 0, 0), ("", 0), ("in",), ("in", 1, 1), ("fix",), ("sum", 0), ("by", 0), ("open", 0, 0)]:
            with self.subTest(step=step):
                self.assertIs(right(SMALL, [("fix", 1), step]), False)

    def test_any_earlier_step_may_be_named(self):
        # An open and an anew have a number and shares like any other step.
        self.assertIs(right(SMALL, [("in", 2), ("open", 0), ("mul", 1, 0), ("anew", 1), ("sum", 3, 3)]), True)


class Needs(unittest.TestCase):
    """Point 9, how much chance a reckoning needs."""

    def test_each_word(self):
        ahead = [("fix", 1)]
        for table in all_tables():
            few, hands = table.few, table.hands
            with self.subTest(table=vars(table)):
                self.assertEqual(needs(table, ahead), 0)
                self.assertEqual(needs(table, ahead + [("in", hands)]), few)
                self.assertEqual(needs(table, ahead + [("mul", 0, 0)]), few * hands)
                self.assertEqual(needs(table, ahead + [("anew", 0)]), few * hands)
                for step in [("sum", 0, 0), ("less", 0, 0), ("by", 0, 2), ("open", 0), ("fix", 4)]:
                    self.assertEqual(needs(table, ahead + [step]), 0)

    def test_written_examples(self):
        self.assertEqual(needs(WIDE, EIGHT), 2 + 2 + 10 + 10)
        self.assertEqual(needs(SMALL, [("in", 3)] * 24), 24)
        self.assertEqual(needs(Table(11, 7, 2), [("in", 1)] + [("mul", 0, 0)] * 23), 2 + 23 * 14)

    def test_mixed_reckonings(self):
        for table in all_tables():
            for length in (1, 5, 24):
                steps = mixed_steps(table, length, 1)
                self.assertEqual(needs(table, steps), slow_needs(table, steps))

    def test_wrong_reckonings(self):
        for steps in wrong_reckonings():
            with self.subTest(steps=steps), self.assertRaises(BadSteps):
                needs(SMALL, steps)


class Plain(unittest.TestCase):
    """Points 8 and 9, the number of each step."""

    def test_all_eight_words(self):
        self.assertEqual(plain(WIDE, EIGHT, EIGHT_INPUTS), EIGHT_MADE)

    def test_each_word_on_all_numbers(self):
        for a, b in itertools.product(range(5), repeat=2):
            steps = [("in", 1), ("in", 2), ("sum", 0, 1), ("less", 0, 1), ("mul", 0, 1), ("by", 0, b), ("fix", b)]
            steps += [("anew", 0), ("open", 1), ("less", 1, 0)]
            made = [a, b, (a + b) % 5, (a - b) % 5, a * b % 5, a * b % 5, b, a, b, (b - a) % 5]
            with self.subTest(a=a, b=b):
                self.assertEqual(plain(SMALL, steps, [[a], [b], []]), made)

    def test_a_step_may_name_the_same_one_twice(self):
        steps = [("in", 1), ("sum", 0, 0), ("less", 0, 0), ("mul", 0, 0)]
        self.assertEqual(plain(SMALL, steps, [[4], [], []]), [4, 3, 0, 1])

    def test_a_hand_uses_its_inputs_from_the_first_on(self):
        steps = [("in", 2), ("in", 1), ("in", 2), ("fix", 0), ("in", 2), ("in", 1)]
        self.assertEqual(plain(SMALL, steps, [[0, 3], [1, 2, 4], []]), [1, 0, 2, 0, 4, 3])

    def test_more_inputs_than_are_used(self):
        self.assertEqual(plain(SMALL, [("in", 2)], [[1], [4, 3, 2], [0, 0]]), [4])
        self.assertEqual(plain(SMALL, [("fix", 2)], [[1], [4], [0]]), [2])

    def test_24_steps(self):
        steps = [("in", 3)] + [("by", place, 2) for place in range(23)]
        self.assertEqual(plain(SMALL, steps, [[], [], [3]]), [3 * 2**place % 5 for place in range(24)])

    def test_mixed_reckonings(self):
        for table in all_tables():
            for length in (1, 7, 24):
                steps = mixed_steps(table, length, 2)
                inputs = mixed_inputs(table, steps, 3, spare=length % 2)
                slow = SlowRun(table, steps, inputs, mixed_chance(table, steps, 4))
                with self.subTest(table=vars(table), steps=steps):
                    self.assertEqual(plain(table, steps, inputs), [row[0] for row in slow.rows])

    def test_wrong_reckonings(self):
        for steps in wrong_reckonings():
            for inputs in [[[1] * 30, [1] * 30, [1] * 30], [], [[9], [], []]]:
                with self.subTest(steps=steps, inputs=inputs), self.assertRaises(BadSteps):
                    plain(SMALL, steps, inputs)

    def test_wrong_inputs(self):
        steps = [("in", 1), ("in", 1), ("in", 2), ("sum", 0, 1)]
        self.assertEqual(plain(SMALL, steps, [[0, 4], [4], []]), [0, 4, 4, 4])
        for inputs in [
            [[0], [4], []], [[], [4], []], [[0, 4], [], []], [[0], [4, 4], [4]], [[], [], []],
            [[5, 4], [4], []], [[0, -1], [4], []], [[0, 4], [6], []],
            [[0, 4, 5], [4], []], [[0, 4], [4, -1], []], [[0, 4], [4], [5]], [[0, 4], [4], [1, 2, -5]],
            [[0, 4], [4]], [[0, 4]], [], [[0, 4], [4], [], []], [[0, 4], [4], [], [1], [2]],
        ]:
            with self.subTest(inputs=inputs), self.assertRaises(BadInputs):
                plain(SMALL, steps, inputs)

    def test_wrong_inputs_where_none_is_used(self):
        for inputs in [[], [[], []], [[], [], [], []], [[5], [], []], [[], [], [-1]]]:
            with self.subTest(inputs=inputs), self.assertRaises(BadInputs):
                plain(SMALL, [("fix", 1)], inputs)

    def test_one_list_a_hand_on_every_table(self):
        for table in all_tables():
            for count in range(10):
                inputs = [[table.prime - 1] for _ in range(count)]
                if count == table.hands:
                    self.assertEqual(plain(table, [("in", count)], inputs), [table.prime - 1])
                else:
                    with self.assertRaises(BadInputs):
                        plain(table, [("in", 1)], inputs)


if __name__ == "__main__":
    unittest.main()

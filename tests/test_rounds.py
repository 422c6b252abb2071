import itertools
import unittest

from reckon import SlowRun, all_tables, mixed_chance, mixed_inputs, mixed_steps, numbers, slow_worth
from veilsum.errors import BadChance, BadInputs, BadSteps
from veilsum.field import Table, through
from veilsum.rounds import run
from veilsum.shares import dealt
from veilsum.steps import needs, plain

SMALL = Table(5, 3, 1)


def mixed_runs():
    """Arguments for run on every table, short and long."""
    for table in all_tables():
        for length in (1, 6, 24):
            steps = mixed_steps(table, length, length)
            inputs = mixed_inputs(table, steps, 6, spare=length % 3)
            yield table, steps, inputs, mixed_chance(table, steps, 7)


class OneStepEach(unittest.TestCase):
    """Points 8 and 10, worked by hand on the table of 3 hands by 5; its weights are 3, 2, 1."""

    def test_in(self):
        told = run(SMALL, [("in", 2)], [[], [2], []], [4])
        self.assertEqual(told, ([[1, 0, 4]], [(0, 2, 1, 1), (0, 2, 3, 4)], []))

    def test_fix(self):
        self.assertEqual(run(SMALL, [("fix", 3)], [[], [], []], []), ([[3, 3, 3]], [], []))

    def test_sum_less_by(self):
        steps = [("in", 1), ("in", 3), ("sum", 0, 1), ("less", 0, 1), ("by", 0, 3)]
        shares, letters, opened = run(SMALL, steps, [[2], [], [3]], [1, 4])
        self.assertEqual(shares, [[3, 4, 0], [2, 1, 0], [0, 0, 0], [1, 3, 0], [4, 2, 0]])
        self.assertEqual(letters, [(0, 1, 2, 4), (0, 1, 3, 0), (1, 3, 1, 2), (1, 3, 2, 1)])
        self.assertEqual(opened, [])

    def test_mul(self):
        # The products of the shares are 1, 4 and 0, dealt as 1 1 1, 1 3 0 and 3 1 4.
        steps = [("in", 1), ("in", 2), ("mul", 0, 1)]
        shares, letters, opened = run(SMALL, steps, [[2], [3], []], [1, 4, 0, 2, 3])
        self.assertEqual(shares, [[3, 4, 0], [2, 1, 0], [3, 0, 2]])
        expected = [(2, 1, 2, 1), (2, 1, 3, 1), (2, 2, 1, 1), (2, 2, 3, 0), (2, 3, 1, 3), (2, 3, 2, 1)]
        self.assertEqual(letters[4:], expected)
        self.assertEqual(opened, [])

    def test_anew(self):
        # Dealt are 1 2 3, 3 1 4 and 4 3 2, together 3 1 4.
        shares, letters, opened = run(SMALL, [("fix", 2), ("anew", 0)], [[], [], []], [1, 3, 4])
        self.assertEqual(shares, [[2, 2, 2], [0, 3, 1]])
        expected = [(1, 1, 2, 2), (1, 1, 3, 3), (1, 2, 1, 3), (1, 2, 3, 4), (1, 3, 1, 4), (1, 3, 2, 3)]
        self.assertEqual(letters, expected)
        self.assertEqual(opened, [])

    def test_open(self):
        shares, letters, opened = run(SMALL, [("in", 1), ("open", 0)], [[2], [], []], [1])
        self.assertEqual(shares, [[3, 4, 0], [3, 4, 0]])
        expected = [(1, 1, 2, 3), (1, 1, 3, 3), (1, 2, 1, 4), (1, 2, 3, 4), (1, 3, 1, 0), (1, 3, 2, 0)]
        self.assertEqual(letters[2:], expected)
        self.assertEqual(opened, [(1, 2)])


class Runs(unittest.TestCase):
    """Points 8, 9 and 10, held against a run that is told by rows."""

    def test_mixed_reckonings(self):
        for table, steps, inputs, chance in mixed_runs():
            slow = SlowRun(table, steps, inputs, chance)
            with self.subTest(table=vars(table), steps=steps):
                self.assertEqual(run(table, steps, inputs, chance), (slow.shares(), slow.letters(), slow.opened()))

    def test_kinds_told(self):
        shares, letters, opened = run(SMALL, [("in", 1), ("open", 0)], [[2], [], []], [1])
        self.assertTrue(all(isinstance(row, list) for row in shares))
        self.assertTrue(all(isinstance(letter, tuple) for letter in letters))
        self.assertTrue(all(isinstance(pair, tuple) for pair in opened))

    def test_all_chance_of_a_product(self):
        steps = [("in", 3), ("mul", 0, 0), ("open", 1)]
        for chance in itertools.product(range(5), repeat=4):
            inputs = [[], [], [3]]
            slow = SlowRun(SMALL, steps, inputs, chance)
            told = run(SMALL, steps, inputs, list(chance))
            self.assertEqual(told, (slow.shares(), slow.letters(), [(2, 4)]))

    def test_chance_is_used_step_by_step_hand_1_first(self):
        table = Table(11, 5, 2)
        steps = [("in", 4), ("anew", 0), ("in", 1)]
        chance = [1, 2, 3, 4, 5, 6, 7, 8, 9, 10, 0, 1, 2, 3]
        letters = run(table, steps, [[9], [], [], [8], []], chance)[1]
        dealings = [(0, 4, 8, [1, 2]), (2, 1, 9, [2, 3])]
        dealings += [(1, hand, 0, chance[2 * hand:2 * hand + 2]) for hand in range(1, 6)]
        for place, sender, number, row in dealings:
            sent = [letter[2:] for letter in letters if letter[:2] == (place, sender)]
            due = [(to, share) for to, share in enumerate(dealt(table, number, row), start=1) if to != sender]
            self.assertEqual(sent, due)

    def test_letters_stand_in_order_and_none_to_oneself(self):
        for table, steps, inputs, chance in mixed_runs():
            letters = run(table, steps, inputs, chance)[1]
            heads = [letter[:3] for letter in letters]
            others = table.hands - 1
            sent = {"in": others, "mul": table.hands * others, "anew": table.hands * others}
            sent["open"] = table.hands * others
            with self.subTest(table=vars(table), steps=steps):
                self.assertEqual(heads, sorted(set(heads)))
                self.assertTrue(all(head[1] != head[2] for head in heads))
                for place, step in enumerate(steps):
                    self.assertEqual(sum(head[0] == place for head in heads), sent.get(step[0], 0))

    def test_opens_in_order_with_those_twice(self):
        steps = [("in", 2), ("open", 0), ("fix", 4), ("open", 1), ("open", 2), ("less", 0, 2), ("open", 5)]
        opened = run(SMALL, steps, [[], [1], []], [3])[2]
        self.assertEqual(opened, [(1, 1), (3, 1), (4, 4), (6, 2)])

    def test_inputs_from_the_first_on(self):
        steps = [("in", 2), ("in", 1), ("in", 2)]
        shares = run(SMALL, steps, [[3, 1], [2, 4, 0], []], [0, 0, 0])[0]
        self.assertEqual(shares, [[2, 2, 2], [3, 3, 3], [4, 4, 4]])


class RowsOfShares(unittest.TestCase):
    """Point 11."""

    def test_any_few_and_one_lead_to_all(self):
        for table, steps, inputs, chance in mixed_runs():
            made = plain(table, steps, inputs)
            shares = run(table, steps, inputs, chance)[0]
            hands = range(1, table.hands + 1)
            self.assertEqual(len(shares), len(steps))
            for number, own in zip(made, shares):
                for chosen in itertools.combinations(hands, table.few + 1):
                    row = through(table, [(hand, own[hand - 1]) for hand in chosen])
                    self.assertEqual(row[0], number)
                    self.assertEqual([slow_worth(table.prime, row, hand) for hand in hands], own)

    def test_whatever_the_chance_is(self):
        table = Table(7, 5, 2)
        steps = [("in", 1), ("in", 2), ("mul", 0, 1), ("mul", 2, 2), ("anew", 3), ("mul", 4, 0), ("open", 5)]
        inputs = [[3], [5], [], [], []]
        for seed in range(60):
            chance = numbers(7, needs(table, steps), seed)
            shares, _, opened = run(table, steps, inputs, chance)
            self.assertEqual(opened, [(6, 3 * 15 * 15 % 7)])
            for number, own in zip(plain(table, steps, inputs), shares):
                row = through(table, list(enumerate(own, start=1)))
                self.assertEqual(row[0], number)
                self.assertEqual(row[3:], [0, 0])

    def test_chance_of_noughts_and_of_the_highest(self):
        for table in all_tables():
            steps = [("in", 1), ("mul", 0, 0), ("anew", 1), ("open", 2)]
            inputs = [[2]] + [[] for _ in range(table.hands - 1)]
            for number in (0, table.prime - 1):
                opened = run(table, steps, inputs, [number] * needs(table, steps))[2]
                self.assertEqual(opened, [(3, 4)])


class Refusals(unittest.TestCase):
    """Points 8 and 9: BadSteps, then BadInputs, then BadChance."""

    def test_wrong_chance(self):
        steps = [("in", 1), ("mul", 0, 0), ("open", 1)]
        inputs = [[1], [], []]
        run(SMALL, steps, inputs, [0, 4, 0, 4])
        for chance in [
            [], [0], [0, 4, 0], [0, 4, 0, 4, 0], [0] * 8,
            [5, 4, 0, 4], [0, 4, 0, 5], [-1, 4, 0, 4], [0, 4, -5, 4], [0, 4, 0, 4, 5], [5, 0, 0],
        ]:
            with self.subTest(chance=chance), self.assertRaises(BadChance):
                run(SMALL, steps, inputs, chance)

    def test_chance_where_none_is_needed(self):
        for chance in [[0], [7]]:
            with self.assertRaises(BadChance):
                run(SMALL, [("fix", 1)], [[], [], []], chance)

    def test_just_as_much_as_is_needed_on_every_table(self):
        for table in all_tables():
            steps = [("in", 2), ("anew", 0)]
            inputs = [[1] for _ in range(table.hands)]
            due = table.few * (1 + table.hands)
            for length in (due - table.few, due - 1, due + 1, due + table.few):
                with self.assertRaises(BadChance):
                    run(table, steps, inputs, [0] * length)
            self.assertEqual(len(run(table, steps, inputs, [0] * due)[0]), 2)

    def test_order_where_several_are_due(self):
        right_steps = [("in", 1), ("in", 3), ("sum", 0, 1)]
        all_steps = [
            (right_steps, None), ([], BadSteps), ([("fix", 1)] * 25, BadSteps), ([("in", 4)], BadSteps),
            ([("fix", 5)], BadSteps), ([("open", 0)], BadSteps), ([("in", 1), ("sum", 0, 2)], BadSteps),
        ]
        all_inputs = [
            ([[1], [], [2]], None), ([[4, 4], [0], [2]], None), ([[1], [], []], BadInputs),
            ([[1], []], BadInputs), ([[1], [], [2], []], BadInputs), ([[1], [5], [2]], BadInputs),
            ([[1], [], [-1]], BadInputs),
        ]
        all_chance = [([3, 4], None), ([3], BadChance), ([3, 4, 0], BadChance), ([3, 5], BadChance), ([-1, 4], BadChance)]
        for (steps, one), (inputs, two), (chance, three) in itertools.product(all_steps, all_inputs, all_chance):
            due = one or two or three
            with self.subTest(steps=steps, inputs=inputs, chance=chance):
                if due is None:
                    self.assertEqual(len(run(SMALL, steps, inputs, chance)[0]), 3)
                else:
                    with self.assertRaises(due):
                        run(SMALL, steps, inputs, chance)


if __name__ == "__main__":
    unittest.main()

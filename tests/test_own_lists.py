"""Point 1: nothing handed in is changed or kept, and what is told is the asker's own."""

import copy
import unittest

from reckon import all_tables
from veilsum.errors import VeilError
from veilsum.field import Table, back, through, weights, worth
from veilsum.rounds import run
from veilsum.shares import dealt, mended
from veilsum.sight import exchanged, seen, veil
from veilsum.steps import needs, plain, right


def steps():
    return [
        ("in", 1), ("in", 4), ("fix", 6), ("sum", 0, 1), ("open", 3), ("open", 4), ("by", 1, 3), ("less", 6, 2),
        ("mul", 0, 1), ("anew", 8),
    ]


def inputs():
    return [[3, 1], [2], [], [5], [6]]


def others():
    return [[1], [2], [0], [0, 4], []]


def chance():
    return [1, 2, 3, 4, 5, 6, 0, 1, 2, 3, 4, 5] * 2


def calls():
    """Every function with arguments that it answers and, where it has some, that it refuses."""
    return [
        (right, [steps()]),
        (right, [[]]),
        (needs, [steps()]),
        (needs, [[("open", 0)]]),
        (plain, [steps(), inputs()]),
        (plain, [steps(), []]),
        (run, [steps(), inputs(), chance()]),
        (run, [steps(), inputs(), [1, 2]]),
        (seen, [steps(), inputs(), chance(), [1, 2]]),
        (seen, [steps(), inputs(), chance(), [1, 2, 3, 4, 5]]),
        (seen, [steps(), inputs(), chance(), []]),
        (seen, [steps(), inputs(), chance(), [2, 1]]),
        (veil, [[2, 3]]),
        (veil, [[]]),
        (veil, [[1, 2, 3]]),
        (exchanged, [steps(), inputs(), others(), chance(), [2, 3]]),
        (exchanged, [steps(), inputs(), others(), chance(), []]),
        (exchanged, [steps(), inputs(), inputs(), chance(), [1, 4]]),
        (exchanged, [steps(), inputs(), others(), chance(), [1]]),
        (back, [3]),
        (back, [0]),
        (worth, [[1, 2, 3], 4]),
        (worth, [[], 4]),
        (through, [[(1, 2), (5, 4), (0, 3)]]),
        (through, [[]]),
        (through, [[(1, 2), (1, 2)]]),
        (weights, []),
        (dealt, [6, [2, 5]]),
        (mended, [[6, 6, 3, 4, 2], 0]),
        (mended, [[6, 6, 3, 4, 1], 1]),
        (mended, [[6, 5, 3, 4, 2], 0]),
        (mended, [[6, None, 3, 4, 2], 0]),
        (mended, [[6, None, None, 4, None], 0]),
    ]


def answer(function, table, arguments):
    try:
        return function(table, *arguments)
    except VeilError as refusal:
        return type(refusal)


def lists_in(told):
    if isinstance(told, list):
        return [told] + [inner for part in told for inner in lists_in(part)]
    if isinstance(told, tuple):
        return [inner for part in told for inner in lists_in(part)]
    return []


def spoil(told):
    for one in lists_in(told):
        one.append(99)
        one[0] = 98


class OwnLists(unittest.TestCase):
    def test_nothing_handed_in_is_changed(self):
        for function, arguments in calls():
            table = Table(7, 5, 2)
            before = copy.deepcopy(arguments)
            answer(function, table, arguments)
            with self.subTest(function=function.__name__, arguments=before):
                self.assertEqual(arguments, before)
                self.assertEqual(vars(table), vars(Table(7, 5, 2)))

    def test_what_is_told_may_be_changed(self):
        table = Table(7, 5, 2)
        for function, arguments in calls():
            first = answer(function, table, arguments)
            kept = copy.deepcopy(first)
            spoil(first)
            with self.subTest(function=function.__name__, arguments=arguments):
                self.assertEqual(answer(function, table, arguments), kept)
                self.assertEqual(answer(function, Table(7, 5, 2), arguments), kept)

    def test_what_is_told_shares_no_list(self):
        table = Table(7, 5, 2)
        for function, arguments in calls():
            told = [answer(function, table, arguments), answer(function, table, arguments)]
            held = lists_in(arguments) + lists_in(told)[1:]
            with self.subTest(function=function.__name__, arguments=arguments):
                self.assertEqual(len({id(one) for one in held}), len(held))

    def test_what_was_handed_in_may_be_changed_later(self):
        table = Table(7, 5, 2)
        for function, arguments in calls():
            first = answer(function, table, arguments)
            kept = copy.deepcopy(first)
            fresh = copy.deepcopy(arguments)
            spoil(arguments)
            with self.subTest(function=function.__name__, arguments=fresh):
                self.assertEqual(first, kept)
                self.assertEqual(answer(function, table, fresh), kept)

    def test_a_refusal_leaves_nothing_behind(self):
        table = Table(7, 5, 2)
        before = [answer(function, table, arguments) for function, arguments in calls()]
        after = [answer(function, table, arguments) for function, arguments in reversed(calls())]
        self.assertEqual(before, after[::-1])

    def test_one_list_handed_in_for_several(self):
        # Whoever hands in one list for all hands is still told lists of which no two are one.
        table = Table(7, 5, 2)
        own = [3, 1]
        row = [own] * 5
        told = seen(table, steps(), row, chance(), [1, 2, 4])
        self.assertEqual(told[0], [[3], [], [3]])
        held = [own, row] + lists_in(told)
        self.assertEqual(len({id(one) for one in held}), len(held))
        self.assertEqual(exchanged(table, steps(), row, row, chance(), [1, 2]), chance())

    def test_the_shares_of_an_open_are_a_list_of_their_own(self):
        shares = run(Table(7, 5, 2), steps(), inputs(), chance())[0]
        kept = list(shares[3])
        shares[4][0] = 99
        self.assertEqual([shares[3], shares[5]], [kept, kept])

    def test_tables_do_not_mix(self):
        tables = all_tables()
        once = [weights(table) for table in tables]
        again = [weights(table) for table in reversed(tables)]
        self.assertEqual(once, again[::-1])


if __name__ == "__main__":
    unittest.main()

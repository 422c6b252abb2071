"""What some hands see of a run, and the exchange of chance that shows few hands the very same."""

from veilsum.errors import BadHands, NoVeil
from veilsum.field import back
from veilsum.rounds import Course, chance_by_step, refuse_run, run
from veilsum.steps import dealers, plain, refuse_inputs, uses


def are_rising_hands(table, some):
    last = 0
    for hand in some:
        if hand <= last or hand > table.hands:
            return False
        last = hand
    return True


def refuse_hands(table, some):
    if not are_rising_hands(table, some):
        raise BadHands("these are not rising hands of the table")


def inputs_used(steps, inputs, some):
    return [inputs[hand - 1][:uses(steps, hand)] for hand in some]


def chance_used(table, steps, chance, some):
    found = []
    for step, rows in zip(steps, chance_by_step(table, steps, chance)):
        for hand, row in zip(dealers(table, step), rows):
            if hand in some:
                found.extend(row)
    return found


def seen(table, steps, inputs, chance, some):
    letters = run(table, steps, inputs, chance)[1]
    refuse_hands(table, some)
    own = inputs_used(steps, inputs, some)
    used = chance_used(table, steps, chance, some)
    return (own, used, [letter for letter in letters if letter[2] in some])


def veil(table, some):
    refuse_hands(table, some)
    if len(some) > table.few:
        raise NoVeil("so many hands have no veil")
    row = [1]
    for hand in some:
        slope = back(table, hand)
        row = [(here - slope * before) % table.prime for here, before in zip(row + [0], [0] + row)]
    return row + [0] * (table.few + 1 - len(row))


def numbers_opened(table, steps, inputs):
    return [number for step, number in zip(steps, plain(table, steps, inputs)) if step[0] == "open"]


def agree(table, steps, inputs, others, some):
    if inputs_used(steps, inputs, some) != inputs_used(steps, others, some):
        return False
    return numbers_opened(table, steps, inputs) == numbers_opened(table, steps, others)


def veiled(table, cover, row, difference):
    return [(number + part * difference) % table.prime for number, part in zip(row, cover[1:])]


def exchanged_rows(cover, some, rows, here, there):
    # Both courses stand before the same step, whose rows of chance these are for the course here.
    table = here.table
    hands = dealers(table, here.coming_step())
    found = []
    for hand, row, before, after in zip(hands, rows, here.numbers_to_deal(), there.numbers_to_deal()):
        found.append(row if hand in some else veiled(table, cover, row, after - before))
    return found


def exchanged(table, steps, inputs, others, chance, some):
    refuse_run(table, steps, inputs, chance)
    refuse_inputs(table, steps, others)
    cover = veil(table, some)
    if not agree(table, steps, inputs, others, some):
        raise NoVeil("the two rows of inputs do not agree")
    here = Course(table, steps, inputs)
    there = Course(table, steps, others)
    found = []
    for rows in chance_by_step(table, steps, chance):
        changed = exchanged_rows(cover, some, rows, here, there)
        here.go_on(rows)
        there.go_on(changed)
        for row in changed:
            found.extend(row)
    return found

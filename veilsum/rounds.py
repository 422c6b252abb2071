"""The run of a reckoning among the hands: their shares, the letters they send, and what is opened."""

from veilsum.errors import BadChance
from veilsum.field import weights
from veilsum.shares import dealt
from veilsum.steps import all_hands, are_numbers, dealers, input_at, needs, reckoned, refuse_inputs, refuse_steps


def refuse_chance(table, steps, chance):
    if len(chance) != needs(table, steps) or not are_numbers(table, chance):
        raise BadChance("the chance does not suit the reckoning")


def refuse_run(table, steps, inputs, chance):
    refuse_steps(table, steps)
    refuse_inputs(table, steps, inputs)
    refuse_chance(table, steps, chance)


def chance_by_step(table, steps, chance):
    found = []
    used = 0
    for step in steps:
        rows = []
        for place in range(len(dealers(table, step))):
            start = used + place * table.few
            rows.append(chance[start:start + table.few])
        used += len(rows) * table.few
        found.append(rows)
    return found


def weighed(table, parts, numbers):
    return sum([part * number for part, number in zip(parts, numbers)]) % table.prime


def letters_of(place, senders, rows):
    found = []
    for sender, row in zip(senders, rows):
        for getter, number in enumerate(row, start=1):
            if getter != sender:
                found.append((place, sender, getter, number))
    return found


class Course:
    # It goes one step at a time, since an exchange must know what is dealt at a step before it knows the chance.

    def __init__(self, table, steps, inputs):
        self.table = table
        self.steps = steps
        self.inputs = inputs
        self.parts = weights(table)
        self.shares = []
        self.letters = []

    def coming_step(self):
        return self.steps[len(self.shares)]

    def own_shares(self, hand):
        return [row[hand - 1] for row in self.shares]

    def numbers_to_deal(self):
        step = self.coming_step()
        if step[0] == "in":
            return [input_at(self.steps, len(self.shares), self.inputs)]
        if step[0] == "anew":
            return [0] * self.table.hands
        return [reckoned(self.table, step, self.own_shares(hand)) for hand in dealers(self.table, step)]

    def new_share(self, hand, rows):
        step = self.coming_step()
        got = [row[hand - 1] for row in rows]
        if step[0] == "in":
            return got[0]
        if step[0] == "mul":
            return weighed(self.table, self.parts, got)
        # Only an anew has got anything here; the other steps are each hand's own affair.
        old = reckoned(self.table, step, self.own_shares(hand))
        return (old + sum(got)) % self.table.prime

    def send_letters(self, step, made, rows):
        place = len(self.shares)
        if step[0] == "open":
            told = [[share] * self.table.hands for share in made]
            self.letters.extend(letters_of(place, all_hands(self.table), told))
        else:
            self.letters.extend(letters_of(place, dealers(self.table, step), rows))

    def go_on(self, chance_rows):
        rows = [dealt(self.table, number, row) for number, row in zip(self.numbers_to_deal(), chance_rows)]
        made = [self.new_share(hand, rows) for hand in all_hands(self.table)]
        self.send_letters(self.coming_step(), made, rows)
        self.shares.append(made)

    def opened(self):
        found = []
        for place, step in enumerate(self.steps):
            if step[0] == "open":
                found.append((place, weighed(self.table, self.parts, self.shares[place])))
        return found


def run(table, steps, inputs, chance):
    refuse_run(table, steps, inputs, chance)
    course = Course(table, steps, inputs)
    for rows in chance_by_step(table, steps, chance):
        course.go_on(rows)
    return (course.shares, course.letters, course.opened())

"""What the tests share: all tables, and a slow, plain reckoning to hold the program against."""

import itertools
import random

from veilsum.field import Table

PRIMES = [5, 7, 11, 13, 17, 19, 23, 29, 31]


def all_tables():
    found = []
    for prime in PRIMES:
        for hands in range(3, 8):
            for few in (1, 2):
                if hands < prime and 2 * few < hands:
                    found.append(Table(prime, hands, few))
    return found


def slow_worth(prime, row, at):
    return sum(number * at**power for power, number in enumerate(row)) % prime


def numbers(prime, length, seed):
    """A row that looks mixed but is the same in every run."""
    row = []
    state = seed * 7919 + prime * 104729 + 17
    for _ in range(length):
        state = (state * 1103515245 + 12345) % 2**31
        row.append((state >> 16) % prime)
    return row


def slow_mended(table, shares, wrong):
    """Every row that fits, found by trying all rows there are."""
    fits = []
    for row in itertools.product(range(table.prime), repeat=table.few + 1):
        liars = [
            hand
            for hand, share in enumerate(shares, start=1)
            if share is not None and share != slow_worth(table.prime, row, hand)
        ]
        if len(liars) <= wrong:
            fits.append((row[0], liars))
    return fits


def slow_weights(table):
    """The weights by the written formula: of hand i the product over all others j of j by (j less i)."""
    found = []
    for hand in range(1, table.hands + 1):
        part = 1
        for other in range(1, table.hands + 1):
            if other != hand:
                part = part * other * pow(other - hand, -1, table.prime) % table.prime
        found.append(part)
    return found


def slow_veil(table, some):
    """The veil number by number, its product written out for none, one and two hands."""
    backs = [pow(hand, -1, table.prime) for hand in some]
    row = [1, -sum(backs), backs[0] * backs[1] if len(backs) == 2 else 0]
    return [number % table.prime for number in row[: table.few + 1]]


def added(prime, rows):
    return [sum(column) % prime for column in zip(*rows)]


def times(prime, row, factor):
    return [number * factor % prime for number in row]


class SlowRun:
    """A run told by rows: for each step the row on which its shares lie, and all dealings as
    (step, hand, row dealt) in the order of use. Nothing is refused."""

    def __init__(self, table, steps, inputs, chance):
        self.table = table
        self.steps = steps
        self.dealings = []
        self.rows = []
        self.left = list(chance)
        self.queues = [list(own) for own in inputs]
        for place, step in enumerate(steps):
            self.rows.append(self.row_of(place, step[0], step[1:]))

    def hands(self):
        return range(1, self.table.hands + 1)

    def share(self, place, hand):
        return slow_worth(self.table.prime, self.rows[place], hand)

    def deal(self, place, hand, number):
        row = [number] + [self.left.pop(0) for _ in range(self.table.few)]
        self.dealings.append((place, hand, row))
        return row

    def row_of(self, place, word, rest):
        prime = self.table.prime
        if word == "in":
            return self.deal(place, rest[0], self.queues[rest[0] - 1].pop(0))
        if word == "fix":
            return [rest[0]] + [0] * self.table.few
        first = self.rows[rest[0]]
        if word == "sum":
            return added(prime, [first, self.rows[rest[1]]])
        if word == "less":
            return added(prime, [first, times(prime, self.rows[rest[1]], -1)])
        if word == "by":
            return times(prime, first, rest[1])
        if word == "mul":
            products = [self.share(rest[0], hand) * self.share(rest[1], hand) % prime for hand in self.hands()]
            rows = [self.deal(place, hand, products[hand - 1]) for hand in self.hands()]
            return added(prime, [times(prime, row, part) for row, part in zip(rows, slow_weights(self.table))])
        if word == "anew":
            return added(prime, [first] + [self.deal(place, hand, 0) for hand in self.hands()])
        assert word == "open"
        return list(first)

    def shares(self):
        return [[self.share(place, hand) for hand in self.hands()] for place in range(len(self.steps))]

    def opened(self):
        return [(place, self.rows[place][0]) for place, step in enumerate(self.steps) if step[0] == "open"]

    def letters(self):
        found = []
        for place, hand, row in self.dealings:
            found.extend((place, hand, to, slow_worth(self.table.prime, row, to)) for to in self.hands() if to != hand)
        for place, step in enumerate(self.steps):
            if step[0] == "open":
                found.extend((place, one, to, self.share(place, one)) for one in self.hands() for to in self.hands())
        return sorted(letter for letter in found if letter[1] != letter[2])

    def chance_of(self, some):
        return [number for _, hand, row in self.dealings if hand in some for number in row[1:]]


def slow_exchanged(table, steps, inputs, others, chance, some):
    """Dealing by dealing; each time both runs are reckoned anew, for a number dealt hangs on earlier chance alone."""
    cover = slow_veil(table, some)
    found = list(chance)
    for turn in range(len(chance) // table.few):
        _, hand, here = SlowRun(table, steps, inputs, chance).dealings[turn]
        _, _, there = SlowRun(table, steps, others, found).dealings[turn]
        if hand not in some:
            for power in range(1, table.few + 1):
                place = turn * table.few + power - 1
                found[place] = (chance[place] + cover[power] * (there[0] - here[0])) % table.prime
    return found


def slow_needs(table, steps):
    dealings = {"in": 1, "mul": table.hands, "anew": table.hands}
    return sum(table.few * dealings.get(step[0], 0) for step in steps)


WORDS = ["in", "fix", "sum", "less", "by", "mul", "anew", "open"]


def mixed_steps(table, length, seed, words=None):
    """A right reckoning that looks mixed but is the same in every run; its first step is an in."""
    mix = random.Random(f"{table.prime} {table.hands} {table.few} {length} {seed}")
    steps = [("in", mix.randint(1, table.hands))]
    while len(steps) < length:
        word = mix.choice(words or WORDS)
        earlier = [mix.randrange(len(steps)), mix.randrange(len(steps))]
        rest = {
            "in": [mix.randint(1, table.hands)],
            "fix": [mix.randrange(table.prime)],
            "by": [earlier[0], mix.randrange(table.prime)],
            "anew": earlier[:1],
            "open": earlier[:1],
        }.get(word, earlier)
        steps.append((word, *rest))
    return steps


def uses(steps, hand):
    return sum(step == ("in", hand) for step in steps)


def mixed_inputs(table, steps, seed, spare=0):
    return [
        numbers(table.prime, uses(steps, hand) + spare, 100 * seed + hand) for hand in range(1, table.hands + 1)
    ]


def mixed_chance(table, steps, seed):
    return numbers(table.prime, slow_needs(table, steps), seed + 500)

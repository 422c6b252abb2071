"""Dealing a number to the hands of a table, and mending the shares that came."""

from veilsum.errors import TooFew
from veilsum.field import through, worth


def dealt(table, number, chance):
    row = [number] + chance
    return [worth(table, row, hand) for hand in range(1, table.hands + 1)]


def that_came(table, shares):
    # A share beyond the last hand is no hand's.
    own = shares[:table.hands]
    return [(hand, share) for hand, share in enumerate(own, start=1) if share is not None]


def choices(things, size):
    if size == 0:
        return [[]]
    found = []
    for place, thing in enumerate(things):
        for rest in choices(things[place + 1:], size - 1):
            found.append([thing] + rest)
    return found


def mended(table, shares, wrong):
    points = that_came(table, shares)
    if len(points) < table.few + 1 + 2 * wrong:
        raise TooFew("too few shares came to mend so many wrong ones")
    # A row with so few liars goes through some few and one of the points, and that many tell it.
    for chosen in choices(points, table.few + 1):
        row = through(table, chosen)
        liars = [hand for hand, share in points if worth(table, row, hand) != share]
        if len(liars) <= wrong:
            return (row[0], liars)
    return None

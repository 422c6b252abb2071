"""Tables, and the reckoning on numbers and rows of numbers by a table's prime."""

from veilsum.errors import AlikePoints, BadTable, Nought

PRIMES = (5, 7, 11, 13, 17, 19, 23, 29, 31)


def is_table(prime, hands, few):
    if prime not in PRIMES or few not in (1, 2):
        return False
    return 3 <= hands <= 7 and hands < prime and 2 * few < hands


class Table:
    def __init__(self, prime, hands, few):
        if not is_table(prime, hands, few):
            raise BadTable(f"no table has prime {prime}, hands {hands}, few {few}")
        self.prime = prime
        self.hands = hands
        self.few = few


def back(table, number):
    for other in range(1, table.prime):
        if number * other % table.prime == 1:
            return other
    # By a prime only 0, and what leaves 0, has no back.
    raise Nought(f"{number} has no back")


def worth(table, row, at):
    total = 0
    # From the last number on, so that no power of at is needed.
    for number in reversed(row):
        total = (total * at + number) % table.prime
    return total


def refuse_alike(table, points):
    # Two x that leave the same by the prime are one number of the table.
    places = [point[0] % table.prime for point in points]
    if len(set(places)) < len(places):
        raise AlikePoints("an x stands twice among the points")


def with_nought_at(table, row, at):
    # The row times (x less at): its worth is 0 at that place, and wherever it was 0 before.
    return [(before - at * here) % table.prime for before, here in zip([0] + row, row + [0])]


def through(table, points):
    refuse_alike(table, points)
    row = []
    # Its worth is 0 at every x met so far, so adding it there spoils no earlier point.
    still = [1]
    for x, y in points:
        times = (y - worth(table, row, x)) * back(table, worth(table, still, x))
        row = [(old + times * new) % table.prime for old, new in zip(row + [0], still)]
        still = with_nought_at(table, still, x)
    return row


def weight(table, hand):
    # Rows are sums of rows that are 1 at one hand and 0 at the others, so one such row tells a hand's part.
    points = [(other, 1 if other == hand else 0) for other in range(1, table.hands + 1)]
    return worth(table, through(table, points), 0)


def weights(table):
    return [weight(table, hand) for hand in range(1, table.hands + 1)]

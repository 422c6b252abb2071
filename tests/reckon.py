"""What the tests share: all tables, and a slow, plain reckoning to hold the program against."""

import itertools

from veilsum.field import Table

PRIMES = [5, 7, 11, 13, 17, 19, 23, 29, 31]


def all_tables():
    found = []
    for prime in PRIMES:
        for hands in range(3, 8):
            for few in (1, 2):
                if hands < prime and 2 * few < hands:
                    found.append(Table(prime, hands, few))
    return found


def slow_worth(prime, row, at):
    return sum(number * at**power for power, number in enumerate(row)) % prime


def numbers(prime, length, seed):
    """A row that looks mixed but is the same in every run."""
    row = []
    state = seed * 7919 + prime * 104729 + 17
    for _ in range(length):
        state = (state * 1103515245 + 12345) % 2**31
        row.append((state >> 16) % prime)
    return row


def slow_mended(table, shares, wrong):
    """Every row that fits, found by trying all rows there are."""
    fits = []
    for row in itertools.product(range(table.prime), repeat=table.few + 1):
        liars = [
            hand
            for hand, share in enumerate(shares, start=1)
            if share is not None and share != slow_worth(table.prime, row, hand)
        ]
        if len(liars) <= wrong:
            fits.append((row[0], liars))
    return fits

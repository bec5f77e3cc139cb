"""Grids told as spots (k, q), q its own rest by p ** k, and the two numbers by which one lies in another."""

from primetree.fractions import NOUGHT, ONE, is_fraction, over, power_in, prime_power, rest_by
from primetree.tables import measure, product, turned_over
from primetree.wholes import is_whole

FIRST = (0, (0, 1))


def is_spot(p, thing):
    if not isinstance(thing, tuple) or len(thing) != 2:
        return False
    k = thing[0]
    q = thing[1]
    if not is_whole(k) or not is_fraction(q):
        return False
    # A fraction is less than p ** n, n the bits of its top: a greater k settles no more, and p ** k may be too great.
    return rest_by(p, min(k, q[0].bit_length()), q) == q


def spot_of(p, table):
    least = least_power(p, (table[2], table[3]))
    k = power_in(p, measure(table)) - 2 * least
    if power_in(p, table[2]) == least:
        return (k, rest_by(p, k, over(table[0], table[2])))
    return (k, rest_by(p, k, over(table[1], table[3])))


def table_at(p, spot):
    return (prime_power(p, spot[0]), spot[1], NOUGHT, ONE)


# The spot with the first number k, at most that of the spot itself, on the road from it towards the end far.
def spot_above(p, spot, k):
    return (k, rest_by(p, k, spot[1]))


def least_power(p, numbers):
    return min([power_in(p, a) for a in numbers if a != NOUGHT])


def two_numbers(p, table):
    low = least_power(p, table)
    return (low, power_in(p, measure(table)) - low)


def lies_in(p, one, other):
    return two_numbers(p, product(turned_over(table_at(p, one)), table_at(p, other)))


def way(p, one, other):
    numbers = lies_in(p, one, other)
    return numbers[1] - numbers[0]

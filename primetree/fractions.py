"""Fractions as tuples (top, bottom) in lowest terms, bottom from 1 on, and their rests by powers of a prime."""

from primetree.errors import NoFraction
from primetree.wholes import is_whole, over_by, power_of, raised, shared

NOUGHT = (0, 1)
ONE = (1, 1)


def fraction(top, bottom=1):
    if bottom == 0:
        raise NoFraction("the bottom of a fraction is 0")
    factor = shared(top, bottom)
    if bottom < 0:
        factor = -factor
    return (top // factor, bottom // factor)


def is_fraction(thing):
    if not isinstance(thing, tuple) or len(thing) != 2:
        return False
    if not is_whole(thing[0]) or not is_whole(thing[1]):
        return False
    return thing[1] >= 1 and shared(thing[0], thing[1]) == 1


def plus(a, b):
    return fraction(a[0] * b[1] + b[0] * a[1], a[1] * b[1])


def minus(a, b):
    return fraction(a[0] * b[1] - b[0] * a[1], a[1] * b[1])


def times(a, b):
    return fraction(a[0] * b[0], a[1] * b[1])


def over(a, b):
    # By nought the bottom comes to 0, which is refused as it ought to be.
    return fraction(a[0] * b[1], a[1] * b[0])


def less(a, b):
    return a[0] * b[1] < b[0] * a[1]


def power_in(p, a):
    if a[0] == 0:
        return None
    return power_of(p, a[0]) - power_of(p, a[1])


def prime_power(p, k):
    if k < 0:
        return (1, raised(p, -k))
    return (raised(p, k), 1)


def alike(p, k, a, b):
    power = power_in(p, minus(a, b))
    return power is None or power >= k


def rest_by(p, k, a):
    # Multiplied by all factors p of its bottom the fraction is whole by p, and its rest a whole number.
    sunk = power_of(p, a[1])
    settled = k + sunk
    if settled <= 0:
        return NOUGHT
    scale = raised(p, sunk)
    whole = a[0] * over_by(p, a[1] // scale, settled) % raised(p, settled)
    return fraction(whole, scale)

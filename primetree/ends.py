"""Ends, fractions or the text far: how a table leads them, and the roads without end towards them."""

from primetree.fractions import NOUGHT, alike, over, plus, rest_by, times
from primetree.grids import spot_above
from primetree.texts import FAR


def led(table, end):
    if end == FAR:
        return over_or_far(table[0], table[2])
    return over_or_far(plus(times(table[0], end), table[1]), plus(times(table[2], end), table[3]))


def over_or_far(upper, lower):
    if lower == NOUGHT:
        return FAR
    return over(upper, lower)


def next_to(p, spot, end):
    k = spot[0]
    if end != FAR and alike(p, k, end, spot[1]):
        return (k + 1, rest_by(p, k + 1, end))
    return spot_above(p, spot, k - 1)


def road_to(p, spot, end, steps):
    told = [spot]
    for step in range(steps):
        told.append(next_to(p, told[-1], end))
    return told

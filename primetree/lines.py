"""The line between two unlike ends: which spots are on it, and which of them is the nearest to a spot."""

from primetree.ends import next_to
from primetree.errors import NoLine
from primetree.fractions import minus, power_in, rest_by
from primetree.grids import spot_above, way
from primetree.texts import FAR


def on_line(p, spot, one, other):
    check_unlike(one, other)
    return next_to(p, spot, one) != next_to(p, spot, other)


def check_unlike(one, other):
    if one == other:
        raise NoLine("between like ends there is no line")


# The nearest spot is where the spot and the two ends meet. As with three spots, two of the three turns are where the
# roads from the end far part first, and the one with the greatest first number is on all three roads. With the end far
# itself no road turns: then the one turn that is left is the meeting.
def nearest(p, spot, one, other):
    check_unlike(one, other)
    turns = [turn_towards(p, spot, end) for end in (one, other) if end != FAR]
    if len(turns) == 2:
        turns.append(turn_of_ends(p, one, other))
    there = max(turns)
    return (there, way(p, spot, there))


# Where the road from a spot to a fraction turns: its spot with the least first number.
def turn_towards(p, spot, end):
    power = power_in(p, minus(spot[1], end))
    if power is None or power >= spot[0]:
        return spot
    return spot_above(p, spot, power)


def turn_of_ends(p, one, other):
    k = power_in(p, minus(one, other))
    return (k, rest_by(p, k, one))

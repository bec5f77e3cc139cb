"""The road between two spots, where three spots meet, and the ways of four."""

from primetree.errors import TooFar
from primetree.grids import lies_in, spot_above, way

FURTHEST_WAY = 500


def road(p, one, other):
    far = way(p, one, other)
    if far > FURTHEST_WAY:
        raise TooFar(far)
    return spots_between(p, one, other)


# The road, however long it is.
def spots_between(p, one, other):
    turn = turn_between(p, one, other)[0]
    up = [spot_above(p, one, k) for k in range(one[0], turn - 1, -1)]
    down = [spot_above(p, other, k) for k in range(turn + 1, other[0] + 1)]
    return up + down


# The spot of the road with the least first number: there the two roads towards the end far come together.
def turn_between(p, one, other):
    # The lower number is 0 less the steps from the one up to it, the higher one the steps down to the other.
    return spot_above(p, one, one[0] + lies_in(p, one, other)[0])


# The spot of the road from the one to the other that is so many steps from the one.
def spot_along(p, one, other, steps):
    up = one[0] - turn_between(p, one, other)[0]
    if steps <= up:
        return spot_above(p, one, one[0] - steps)
    return spot_above(p, other, one[0] - 2 * up + steps)


def meeting(p, one, two, three):
    # From the end far one road leads to all three, until it parts once, and on to two of them, until it parts again.
    # Two of the turns are where it parts first; the third, with the greatest first number, is on all three roads.
    return max([turn_between(p, one, two), turn_between(p, one, three), turn_between(p, two, three)])


def sums_of_ways(p, four):
    a = four[0]
    b = four[1]
    c = four[2]
    d = four[3]
    return [way(p, a, b) + way(p, c, d), way(p, a, c) + way(p, b, d), way(p, a, d) + way(p, b, c)]

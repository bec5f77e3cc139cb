"""Which spots are tied to a spot, and which lie within a reach of it."""

from primetree.errors import TooMany
from primetree.fractions import fraction, plus, prime_power, times
from primetree.grids import spot_above, way

MOST_SPOTS = 400


def ties(p, spot):
    k = spot[0]
    size = prime_power(p, k)
    below = [(k + 1, plus(spot[1], times(fraction(c), size))) for c in range(p)]
    return sorted([spot_above(p, spot, k - 1)] + below)


def tied(p, one, other):
    return way(p, one, other) == 1


def within(p, spot, r):
    if is_over_most(p, r):
        raise TooMany(f"more than {MOST_SPOTS} spots are within this reach")
    # No way is below 0.
    if r < 0:
        return []
    told = {spot: True}
    ring = [spot]
    for step in range(r):
        ring = ring_behind(p, ring, told)
        for one in ring:
            told[one] = True
    return list(told)


# Counted ring by ring, so that a great reach is settled at once.
def is_over_most(p, r):
    count = 1
    ring = p + 1
    for step in range(r):
        count = count + ring
        if count > MOST_SPOTS:
            return True
        ring = ring * p
    return False


# No spot is found twice: in a tree each has just one tie that is nearer to where the rings begin.
def ring_behind(p, ring, told):
    found = []
    for spot in ring:
        found.extend([tie for tie in ties(p, spot) if tie not in told])
    return sorted(found)

"""Spots moved by tables, and a spot that a table moves, where there is one."""

from primetree.ends import led
from primetree.fractions import NOUGHT, ONE, minus, power_in, rest_by
from primetree.grids import spot_of, table_at
from primetree.tables import measure, product


def moved(p, table, spot):
    return spot_of(p, product(table, table_at(p, spot)))


def mover(p, table):
    return lambda spot: moved(p, table, spot)


# A table that leads far, nought and one to themselves is the one-table times a fraction. Where it leads one of them
# elsewhere, the spots of a road to this end are moved from some place on; that place is reckoned, not walked to.
def some_moved(p, table):
    if table[2] != NOUGHT:
        return moved_above(p, table)
    for end in (NOUGHT, ONE):
        off = minus(led(table, end), end)
        if off != NOUGHT:
            return moved_below(p, end, off)
    return None


# Of (k, nought) the moved spot's first number is k and the measure's power, less twice the least power in the product's
# lower row: more than k where the lower left fraction times p ** k has a power below half of the measure's.
def moved_above(p, table):
    below_half = (power_in(p, measure(table)) - 1) // 2
    return (below_half - power_in(p, table[2]), NOUGHT)


# As far is led to itself, all first numbers change by one number. Where that is 0, the spot at k of the road to the end
# comes to the one at k of the road to the led end, and these differ where the two ends are not alike by p ** k.
def moved_below(p, end, off):
    k = power_in(p, off) + 1
    return (k, rest_by(p, k, end))

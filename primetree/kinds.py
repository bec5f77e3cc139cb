"""What a table does with the tree: it keeps a spot, it turns a tie end for end, or it slides along a line."""

from primetree.fractions import power_in, prime_power, rest_by, times
from primetree.grids import FIRST, table_at, two_numbers, way
from primetree.moves import moved
from primetree.roads import road, spot_along, spots_between
from primetree.tables import measure, product, trace, turned_over
from primetree.ties import tied, within

KEEPS = "keeps"
TURNS = "turns"
SLIDES = "slides"


# The road from a spot to the moved one goes to what the table keeps, turns or slides along, and as far away from it
# again: so its middle is kept, is an end of the tie, or is on the line.
def kind(p, table):
    there = moved(p, table, FIRST)
    one = spot_along(p, FIRST, there, way(p, FIRST, there) // 2)
    other = moved(p, table, one)
    if one == other:
        return (KEEPS, one)
    steps = slide(p, table)
    if steps == 0:
        return (TURNS, min(one, other), max(one, other))
    # The road is as long as the slide, and refused where that is too far.
    return (SLIDES, steps, road(p, one, other))


# By how many steps the table slides; 0 where it does not.
def slide(p, table):
    power = power_in(p, trace(table))
    if power is None:
        return 0
    return max(0, power_in(p, measure(table)) - 2 * power)


# A spot is moved by twice its way from the nearest kept one: where it is moved further, none is within the reach.
def kept_within(p, table, spot, r):
    spots = within(p, spot, r)
    if way(p, spot, moved(p, table, spot)) > 2 * r:
        return []
    there = table_at(p, spot)
    back = turned_over(there)
    small = small_table(p, product(product(back, table), there), r)
    return [one for one in spots if is_kept(p, small, moved(p, back, one))]


# However great a table is, where it moves the first spot by at most 2 * r ways small whole numbers settle which spots
# it keeps within r ways of it. Stretched so that its low number is 0, its high number is at most 2 * r; and what is
# added to the table comes to at most r powers less, seen from a spot r ways off. So what is left out here, multiples
# of a power above 3 * r, changes neither the power of the measure nor what is kept.
def small_table(p, table, r):
    factor = prime_power(p, -two_numbers(p, table)[0])
    return tuple([rest_by(p, 3 * r + 1, times(a, factor)) for a in table])


def is_kept(p, table, spot):
    return moved(p, table, spot) == spot


def holds(p, table, told):
    if told[0] == KEEPS:
        return is_kept(p, table, told[1])
    if told[0] == TURNS:
        return is_turned(p, table, told[1], told[2])
    return is_stretch(p, table, told[1], told[2])


# Two spots that are moved to one another need not be tied: about a kept spot many are.
def is_turned(p, table, one, other):
    if not one < other or not tied(p, one, other):
        return False
    return moved(p, table, one) == other and moved(p, table, other) == one


# A spot that is moved by just the slide is on the line, and so is the road to the moved one: the second spot of it is
# moved further on. The way is asked first, as the road of a spot far off the line is long.
def is_stretch(p, table, steps, stretch):
    if steps == 0 or steps != slide(p, table) or len(stretch) != steps + 1:
        return False
    last = moved(p, table, stretch[0])
    return way(p, stretch[0], last) == steps and stretch == spots_between(p, stretch[0], last)

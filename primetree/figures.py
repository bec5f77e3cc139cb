"""The figures of a fraction by a prime, and the fraction of such figures."""

from primetree.errors import TooMany
from primetree.fractions import fraction, prime_power, times
from primetree.wholes import over_by, power_of, raised

MOST_BOTTOM = 300


def figures(p, a):
    sunk = power_of(p, a[1])
    bottom = a[1] // raised(p, sunk)
    if bottom > MOST_BOTTOM:
        raise TooMany(f"the bottom, without all factors {p}, is above {MOST_BOTTOM}")
    # What is left behind each figure is a fraction over the bottom, and its top settles all further figures: so they
    # come again just where a top does.
    over_bottom = over_by(p, bottom, 1)
    row = []
    places = {}
    top = a[0]
    while top not in places:
        places[top] = len(row)
        figure = top * over_bottom % p
        row.append(figure)
        top = (top - figure * bottom) // p
    return (-sunk, row[:places[top]], row[places[top]:])


def by_figures(p, first, head, again):
    size = 1 - raised(p, len(again))
    top = number_by(p, head) * size + number_by(p, again) * raised(p, len(head))
    return times(fraction(top, size), prime_power(p, first))


# The whole number with these figures from place 0 on.
def number_by(p, row):
    number = 0
    for figure in reversed(row):
        number = number * p + figure
    return number

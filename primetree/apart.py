"""Firm tables, and each table as a firm one, a table of two powers of the prime, and a firm one."""

from primetree.fractions import NOUGHT, ONE, over, power_in, prime_power, times
from primetree.grids import two_numbers
from primetree.tables import measure, one_table, product


# The low number is the least power, the high one not below it, and both together are the power of the measure: so that
# is 0 and no power below 0 just where both numbers are 0.
def is_firm(p, table):
    return two_numbers(p, table) == (0, 0)


# With a fraction of the least power in the upper left place, a, the table is the product of (1, 0, c / a, 1),
# (a, 0, 0, measure / a) and (1, b / a, 0, 1). Swapped rows or columns bring it there, and, swapped again, back.
def taken_apart(p, table):
    numbers = two_numbers(p, table)
    powers = [power_in(p, a) for a in table]
    place = powers.index(numbers[0])
    rows = swap_or_not(place >= 2)
    columns = swap_or_not(place % 2 == 1)
    brought = product(product(rows, table), columns)
    a = brought[0]
    low = prime_power(p, numbers[0])
    high = prime_power(p, numbers[1])
    left = (over(a, low), NOUGHT, over(brought[2], low), over(measure(brought), times(a, high)))
    right = (ONE, over(brought[1], a), NOUGHT, ONE)
    return (product(rows, left), numbers[0], numbers[1], product(right, columns))


def swap_or_not(swapped):
    if swapped:
        return (NOUGHT, ONE, ONE, NOUGHT)
    return one_table()

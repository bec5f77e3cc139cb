"""Tables of four fractions (a, b, c, d): the rows (a, b) and (c, d), the measure of which is not nought."""

from primetree.errors import NoTable
from primetree.fractions import NOUGHT, ONE, minus, over, plus, times


def one_table():
    return (ONE, NOUGHT, NOUGHT, ONE)


def table_of(a, b, c, d):
    table = (a, b, c, d)
    if measure(table) == NOUGHT:
        raise NoTable("the measure of a table is not to be nought")
    return table


def measure(table):
    return minus(times(table[0], table[3]), times(table[1], table[2]))


def trace(table):
    return plus(table[0], table[3])


def product(one, other):
    left = (other[0], other[2])
    right = (other[1], other[3])
    upper = (one[0], one[1])
    lower = (one[2], one[3])
    return (row_by_column(upper, left), row_by_column(upper, right),
            row_by_column(lower, left), row_by_column(lower, right))


def row_by_column(row, column):
    return plus(times(row[0], column[0]), times(row[1], column[1]))


def turned_over(table):
    swapped = (table[3], minus(NOUGHT, table[1]), minus(NOUGHT, table[2]), table[0])
    return stretched(swapped, over(ONE, measure(table)))


def stretched(table, a):
    if a == NOUGHT:
        raise NoTable("a table times nought is no table")
    return (times(table[0], a), times(table[1], a), times(table[2], a), times(table[3], a))

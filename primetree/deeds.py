"""Deeds, simple tables with a name, and tables as rows of at most four of them."""

from primetree.errors import NoFraction
from primetree.fractions import NOUGHT, ONE, minus, over, times
from primetree.moves import moved
from primetree.tables import measure
from primetree.texts import fraction_text


class Deed:
    def done(self, p, spot):
        return moved(p, self.table(), spot)


# Each deed has an __eq__, as what is told again is to be equal to what was told.
class Scale(Deed):
    def __init__(self, number):
        if number == NOUGHT:
            raise NoFraction("by nought nothing is scaled")
        self.number = number

    def __eq__(self, other):
        return isinstance(other, Scale) and self.number == other.number

    def table(self):
        return (self.number, NOUGHT, NOUGHT, ONE)

    def back(self):
        return Scale(over(ONE, self.number))

    def shown(self):
        number = fraction_text(self.number)
        return f"scale {number}"


class Shift(Deed):
    def __init__(self, number):
        self.number = number

    def __eq__(self, other):
        return isinstance(other, Shift) and self.number == other.number

    def table(self):
        return (ONE, self.number, NOUGHT, ONE)

    def back(self):
        return Shift(minus(NOUGHT, self.number))

    def shown(self):
        number = fraction_text(self.number)
        return f"shift {number}"


class Flip(Deed):
    def __eq__(self, other):
        return isinstance(other, Flip)

    def table(self):
        return (NOUGHT, ONE, ONE, NOUGHT)

    def back(self):
        return Flip()

    def shown(self):
        return "flip"


# Where c is not nought, (a * x + b) / (c * x + d) is a / c less the measure / (c * c) over x + d / c.
def deeds_of(table):
    a = table[0]
    b = table[1]
    c = table[2]
    d = table[3]
    if c == NOUGHT:
        return [Shift(over(b, d)), Scale(over(a, d))]
    factor = minus(NOUGHT, over(measure(table), times(c, c)))
    return [Shift(over(a, c)), Scale(factor), Flip(), Shift(over(d, c))]


def all_done(p, deeds, spot):
    lying = spot
    for deed in reversed(deeds):
        lying = deed.done(p, lying)
    return lying

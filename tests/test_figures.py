import unittest
from fractions import Fraction

from helper import (PRIMES, SIXTY_FIGURES, check_refused, is_fraction, is_whole, number_of, pair, power_of_number,
                    rest_by_words)
from primetree.ends import road_to
from primetree.errors import TooMany
from primetree.figures import by_figures, figures

TOPS = (0, 1, -1, 2, -2, 3, -5, 7, 8, 9, 25, -49, 100, -211, 1024, 3 ** 40, -(10 ** 59), SIXTY_FIGURES)


def bottom_without(p, bottom):
    while bottom % p == 0:
        bottom //= p
    return bottom


def figure_at(p, told, place):
    """The figure that is told at a place, from the first place on."""
    first, head, again = told
    i = place - first
    return head[i] if i < len(head) else again[(i - len(head)) % len(again)]


def number_by_words(p, first, head, again):
    number = Fraction(0)
    for i, figure in enumerate(head):
        number += figure * Fraction(p) ** (first + i)
    behind = Fraction(0)
    for i, figure in enumerate(again):
        behind += figure * Fraction(p) ** (first + len(head) + i)
    return number + behind / (1 - p ** len(again))


def is_row_of_figures(p, row):
    return type(row) is list and all(is_whole(figure) and 0 <= figure < p for figure in row)


def is_shorter_row_again(row):
    return any(row == row[:size] * (len(row) // size) for size in range(1, len(row)) if len(row) % size == 0)


class TestFigures(unittest.TestCase):
    def check(self, p, number):
        told = figures(p, pair(number))
        about = (p, number)
        self.assertIs(type(told), tuple)
        self.assertEqual(len(told), 3)
        first, head, again = told
        self.assertTrue(is_whole(first), about)
        self.assertEqual(first, 0 if number == 0 else min(power_of_number(p, number), 0), about)
        self.assertTrue(is_row_of_figures(p, head) and is_row_of_figures(p, again), about)
        self.assertGreaterEqual(len(again), 1, about)
        # As short as can be: what comes again is no shorter row twice or more, and no figure of the head belongs to it.
        self.assertFalse(is_shorter_row_again(again), about)
        if head:
            self.assertNotEqual(head[-1], again[-1], about)
        self.assertEqual(number_by_words(p, *told), number, about)
        return told

    def check_by_the_rests(self, p, number, places):
        told = figures(p, pair(number))
        rest = rest_by_words(p, told[0], number)
        self.assertEqual(rest, 0)
        for place in range(told[0], told[0] + places):
            rest += figure_at(p, told, place) * Fraction(p) ** place
            self.assertEqual(rest, rest_by_words(p, place + 1, number), (p, number, place))

    def test_the_worked_cases(self):
        self.assertEqual(figures(2, (-1, 1)), (0, [], [1]))
        self.assertEqual(figures(2, (1, 3)), (0, [1], [1, 0]))
        self.assertEqual(figures(2, (0, 1)), (0, [], [0]))

    def test_ordinary(self):
        self.assertEqual(figures(2, (6, 1)), (0, [0, 1, 1], [0]))
        self.assertEqual(figures(2, (-1, 3)), (0, [], [1, 0]))
        self.assertEqual(figures(2, (-2, 3)), (0, [], [0, 1]))
        self.assertEqual(figures(2, (1, 4)), (-2, [1], [0]))
        self.assertEqual(figures(2, (-1, 4)), (-2, [], [1]))
        self.assertEqual(figures(2, (5, 2)), (-1, [1, 0, 1], [0]))
        self.assertEqual(figures(3, (-1, 1)), (0, [], [2]))
        self.assertEqual(figures(3, (1, 2)), (0, [2], [1]))
        self.assertEqual(figures(3, (-1, 2)), (0, [], [1]))
        self.assertEqual(figures(5, (1, 3)), (0, [2], [3, 1]))
        self.assertEqual(figures(5, (27, 25)), (-2, [2, 0, 1], [0]))
        self.assertEqual(figures(7, (-1, 48)), (0, [], [1, 0]))
        self.assertEqual(figures(7, (-2, 1)), (0, [5], [6]))

    def test_small_ones(self):
        for p in PRIMES:
            for bottom in range(1, 41):
                for top in range(-30, 31):
                    self.check(p, Fraction(top, bottom))

    def test_by_the_rests(self):
        for p in PRIMES:
            for bottom in (1, 2, 3, 4, 5, 6, 7, 11, 15, 25, 49, 63, 81):
                for top in TOPS:
                    self.check_by_the_rests(p, Fraction(top, bottom), 24)

    def test_great_ones(self):
        for p in PRIMES:
            for bottom in (1, p, p ** 70, 11 * p ** 60, 13, 299, 293 * p ** 5):
                for top in TOPS:
                    self.check(p, Fraction(top, bottom))
                self.check_by_the_rests(p, Fraction(SIXTY_FIGURES, bottom), 300)

    def test_nought_and_the_powers(self):
        for p in PRIMES:
            self.assertEqual(figures(p, (0, 1)), (0, [], [0]))
            self.assertEqual(figures(p, (-1, 1)), (0, [], [p - 1]))
            for n in (1, 2, 9, 60):
                self.assertEqual(figures(p, (p ** n, 1)), (0, [0] * n + [1], [0]))
                self.assertEqual(figures(p, (-(p ** n), 1)), (0, [0] * n, [p - 1]))
                self.assertEqual(figures(p, (1, p ** n)), (-n, [1], [0]))
                self.assertEqual(figures(p, (-1, p ** n)), (-n, [], [p - 1]))

    def test_bottoms_up_to_300(self):
        for p in PRIMES:
            for bottom in range(1, 301):
                self.check(p, Fraction(1, bottom))
                self.check(p, Fraction(-bottom - 1, bottom))

    def test_a_bottom_above_300_is_refused(self):
        for p in PRIMES:
            for bottom in list(range(301, 340)) + [10 ** 59 + 1, SIXTY_FIGURES]:
                for factor in (1, p, p ** 9):
                    for top in (1, -1, SIXTY_FIGURES - 2):
                        number = Fraction(top, bottom * factor)
                        if bottom_without(p, number.denominator) > 300:
                            check_refused(self, TooMany, figures, p, pair(number))
                        else:
                            self.check(p, number)

    def test_the_factors_p_of_the_bottom_do_not_count(self):
        for p, bottom in ((2, 302), (2, 600), (2, 2 ** 190), (3, 303), (3, 900), (5, 305), (5, 1495), (7, 301),
                          (7, 2093)):
            self.check(p, Fraction(1, bottom))
        for p, bottom in ((2, 301), (2, 602), (3, 302), (3, 903), (5, 301), (5, 1505), (7, 302), (7, 2114)):
            self.assertGreater(bottom_without(p, bottom), 300)
            check_refused(self, TooMany, figures, p, (1, bottom))

    def test_the_road_goes_by_the_figures(self):
        for p in PRIMES:
            for number in (Fraction(0), Fraction(-1), Fraction(-11, 13), Fraction(1, p ** 3), Fraction(-13, 11 * p),
                           Fraction(p ** 4, 17)):
                told = figures(p, pair(number))
                way_down = road_to(p, (told[0], (0, 1)), pair(number), 60)
                for i in range(60):
                    k, q = way_down[i]
                    self.assertEqual(k, told[0] + i)
                    step = (number_of(way_down[i + 1][1]) - number_of(q)) / Fraction(p) ** k
                    self.assertEqual(step, figure_at(p, told, k))

    def test_what_was_told_is_handed_in_again(self):
        for p in PRIMES:
            a = by_figures(p, -300, [1, 0] * 50, [0, 1])
            for step in range(3):
                told = figures(p, a)
                self.assertEqual(by_figures(p, *told), a)
                a = by_figures(p, told[0] - 200, told[1] + [1] * 90, told[2])
            self.check(p, number_of(a))

    def test_the_lists_are_the_askers_own(self):
        for p, a in ((2, (0, 1)), (2, (1, 3)), (3, (-1, 1))):
            before = figures(p, a)
            told = figures(p, a)
            told[1].append(7)
            told[2].clear()
            self.assertEqual(figures(p, a), before)
            self.assertIsNot(figures(p, a)[1], figures(p, a)[1])
            self.assertIsNot(figures(p, a)[1], figures(p, a)[2])

    def test_by_name(self):
        self.assertEqual(figures(a=(1, 3), p=2), (0, [1], [1, 0]))


class TestByFigures(unittest.TestCase):
    def check(self, p, first, head, again):
        told = by_figures(p, first, head, again)
        self.assertTrue(is_fraction(told))
        self.assertEqual(number_of(told), number_by_words(p, first, head, again), (p, first, head, again))
        return told

    def test_ordinary(self):
        self.assertEqual(by_figures(2, 0, [], [1]), (-1, 1))
        self.assertEqual(by_figures(2, 0, [1], [1, 0]), (1, 3))
        self.assertEqual(by_figures(2, 0, [], [0]), (0, 1))
        self.assertEqual(by_figures(2, -2, [1], [0]), (1, 4))
        self.assertEqual(by_figures(2, 3, [1, 1], [0]), (24, 1))
        self.assertEqual(by_figures(3, 1, [2], [1]), (3, 2))
        self.assertEqual(by_figures(3, -1, [], [1, 2]), (-7, 24))
        self.assertEqual(by_figures(5, 0, [2], [3, 1]), (1, 3))
        self.assertEqual(by_figures(7, 0, [], [1, 0]), (-1, 48))
        self.assertEqual(by_figures(7, 2, [], [6]), (-49, 1))

    def test_each_first_place(self):
        for p in PRIMES:
            for first in range(-300, 301):
                self.check(p, first, [1, 0, p - 1], [0, 1])
                self.check(p, first, [], [p - 1])

    def test_heads_and_agains(self):
        for p in PRIMES:
            rows = [[0], [1], [p - 1], [0, 0], [0, 1], [1, 0], [1, p - 1, 0], [0, 0, 1], [p - 1] * 5, [1] + [0] * 30,
                    [i % p for i in range(100)]]
            for head in [[]] + rows:
                for again in rows:
                    for first in (-300, -1, 0, 1, 300):
                        self.check(p, first, head, again)

    def test_the_fraction_has_these_figures(self):
        for p in PRIMES:
            for first in (-5, 0, 4):
                for head in ([], [0], [1, 0], [p - 1, 1, 1]):
                    for again in ([0], [1], [p - 1], [0, 1], [1, 0, 0, p - 1]):
                        number = number_of(self.check(p, first, head, again))
                        rest = Fraction(0)
                        self.assertEqual(rest_by_words(p, first, number), 0)
                        for place in range(first, first + 20):
                            rest += figure_at(p, (first, head, again), place) * Fraction(p) ** place
                            self.assertEqual(rest_by_words(p, place + 1, number), rest)

    def test_not_as_short_as_can_be(self):
        for p in PRIMES:
            self.assertEqual(by_figures(p, 0, [1, 0, 1, 0], [1, 0, 1, 0]), by_figures(p, 0, [], [1, 0]))
            self.assertEqual(by_figures(p, -3, [0, 0, 0, 1], [0, 0, 0]), (1, 1))
            self.assertEqual(by_figures(p, 0, [1], [0, 1]), by_figures(p, 0, [], [1, 0]))

    def test_back_from_the_figures(self):
        for p in PRIMES:
            for bottom in (1, 2, 3, 5, 7, 11, 60, 97, 211, 293, p ** 60, 13 * p ** 9):
                for top in TOPS:
                    a = pair(Fraction(top, bottom))
                    self.assertEqual(by_figures(p, *figures(p, a)), a)

    def test_and_to_the_figures(self):
        for p in PRIMES:
            for first, head, again in ((-2, [1], [0]), (0, [], [p - 1]), (0, [0, 0, 1], [1, 0]),
                                       (-1, [1, 0], [0, 1, 1]), (-300, [1], [0]), (0, [0] * 99 + [1], [0])):
                self.assertEqual(figures(p, by_figures(p, first, head, again)), (first, head, again))

    def test_what_is_handed_in_is_not_changed(self):
        head = [1, 0, 1]
        again = [0, 1]
        told = by_figures(2, 0, head, again)
        self.assertEqual((head, again), ([1, 0, 1], [0, 1]))
        head.append(1)
        again.clear()
        self.assertEqual(told, by_figures(2, 0, [1, 0, 1], [0, 1]))
        row = [1]
        self.assertEqual(by_figures(2, 0, row, row), (-1, 1))
        self.assertEqual(row, [1])

    def test_by_name(self):
        self.assertEqual(by_figures(again=[1, 0], head=[1], first=0, p=2), (1, 3))


class TestAskedAgain(unittest.TestCase):
    def test_equal_things_are_told(self):
        for p in PRIMES:
            for top in TOPS:
                a = pair(Fraction(top, 11 * p))
                self.assertEqual(figures(p, a), figures(p, pair(number_of(a))))
                first, head, again = figures(p, a)
                self.assertEqual(by_figures(p, first, head, again), by_figures(p, first, list(head), list(again)))


if __name__ == "__main__":
    unittest.main()

import unittest
from fractions import Fraction

from helper import (PRIMES, SIXTY_FIGURES, check_refused, end_from, ends_for, great_tables, is_spot_by_words, is_whole,
                    next_by_words, number_of, numbers_for, pair, road_by_words, some_spots, some_tables, spot_by_number,
                    table_from, way_by_parting)
from primetree.ends import led, next_to, road_to
from primetree.errors import NoLine
from primetree.grids import way
from primetree.lines import nearest, on_line
from primetree.moves import moved
from primetree.roads import meeting, road
from primetree.tables import product, turned_over
from primetree.ties import tied, ties, within

FIRST = (0, (0, 1))
FAR = "far"


def unlike_ends(p):
    ends = ends_for(p)
    return [(one, other) for one in ends for other in ends if one != other]


def near_spots(p):
    return [spot for spot in some_spots(p) if abs(spot[0]) < 10]


def nearest_by_walking(p, spot, one, other):
    """Going on from the spot as long as the next spots towards both ends are the same."""
    steps = 0
    there = spot
    while next_by_words(p, there, one) == next_by_words(p, there, other):
        there = next_by_words(p, there, one)
        steps += 1
    return (there, steps)


class TestOnLine(unittest.TestCase):
    def test_ordinary(self):
        for p in PRIMES:
            for k in (-3, -1, 0, 1, 4):
                self.assertIs(on_line(p, (k, (0, 1)), (0, 1), FAR), True)
                self.assertIs(on_line(p, (k, (0, 1)), FAR, (0, 1)), True)
            self.assertIs(on_line(p, (1, (1, 1)), (0, 1), FAR), False)
            self.assertIs(on_line(p, (0, (1, p)), (0, 1), FAR), False)
            self.assertIs(on_line(p, (1, (1, 1)), (1, 1), FAR), True)

    def test_between_two_fractions(self):
        for p in PRIMES:
            self.assertIs(on_line(p, FIRST, (0, 1), (1, 1)), True)
            self.assertIs(on_line(p, (1, (0, 1)), (0, 1), (1, 1)), True)
            self.assertIs(on_line(p, (1, (1, 1)), (0, 1), (1, 1)), True)
            self.assertIs(on_line(p, (-1, (0, 1)), (0, 1), (1, 1)), False)
            self.assertIs(on_line(p, (2, (p, 1)), (0, 1), (1, 1)), False)
            self.assertIs(on_line(p, FIRST, (0, 1), (p, 1)), False)
            self.assertIs(on_line(p, (1, (0, 1)), (0, 1), (p, 1)), True)
            self.assertIs(on_line(p, (-1, (0, 1)), (0, 1), (1, p)), True)
            self.assertIs(on_line(p, (-2, (0, 1)), (0, 1), (1, p)), False)

    def test_where_the_next_spots_are_unlike(self):
        for p in PRIMES:
            for spot in some_spots(p)[::2]:
                for one, other in unlike_ends(p)[::3]:
                    told = on_line(p, spot, one, other)
                    self.assertIs(told, next_by_words(p, spot, one) != next_by_words(p, spot, other))

    def test_there_are_spots_on_the_line_and_off_it(self):
        for p in PRIMES:
            for one, other in unlike_ends(p)[::5]:
                here = nearest(p, FIRST, one, other)[0]
                told = [on_line(p, tie, one, other) for tie in ties(p, here)]
                self.assertEqual(told.count(True), 2)
                self.assertEqual(told.count(False), p - 1)

    def test_its_spots_go_on_to_both_sides(self):
        for p in PRIMES:
            for one, other in unlike_ends(p)[::4]:
                here = nearest(p, (2, (1, 1)), one, other)[0]
                line = road_by_words(p, here, one, 40)[::-1] + road_by_words(p, here, other, 40)[1:]
                self.assertEqual(len(set(line)), 81)
                for i in range(80):
                    self.assertTrue(tied(p, line[i], line[i + 1]))
                for spot in line[::3]:
                    self.assertIs(on_line(p, spot, one, other), True)
                self.assertEqual(road(p, line[0], line[-1]), line)

    def test_a_table_moves_lines_to_lines(self):
        for p in PRIMES:
            for table in some_tables(p)[::3]:
                for one, other in unlike_ends(p)[::13]:
                    for spot in within(p, nearest(p, FIRST, one, other)[0], 1):
                        self.assertIs(on_line(p, moved(p, table, spot), led(table, one), led(table, other)),
                                      on_line(p, spot, one, other))

    def test_like_ends_are_refused(self):
        for p in PRIMES:
            for end in ends_for(p) + [(1, 1), (SIXTY_FIGURES, 1)]:
                for spot in some_spots(p)[::7]:
                    check_refused(self, NoLine, on_line, p, spot, end, end)
            for number in numbers_for(p):
                check_refused(self, NoLine, on_line, p, FIRST, end_from(number), end_from(number))

    def test_ends_that_are_alike_by_much_are_no_like_ends(self):
        for p in PRIMES:
            deep = (p ** 70, 1)
            self.assertIs(on_line(p, (70, (0, 1)), (0, 1), deep), True)
            self.assertIs(on_line(p, (69, (0, 1)), (0, 1), deep), False)
            self.assertIs(on_line(p, (71, (0, 1)), (0, 1), deep), True)
            self.assertIs(on_line(p, (71, deep), (0, 1), deep), True)

    def test_by_name(self):
        self.assertIs(on_line(other=FAR, one=(0, 1), spot=FIRST, p=2), True)
        self.assertIs(on_line(other=(1, 2), one=(1, 1), spot=(2, (3, 1)), p=2), False)


class TestNearest(unittest.TestCase):
    def check(self, p, spot, one, other):
        told = nearest(p, spot, one, other)
        self.assertIs(type(told), tuple)
        self.assertEqual(len(told), 2)
        self.assertTrue(is_spot_by_words(p, told[0]), (p, spot, one, other))
        self.assertTrue(is_whole(told[1]))
        self.assertEqual(told[1], way_by_parting(p, spot, told[0]))
        return told

    def test_ordinary(self):
        self.assertEqual(nearest(2, (1, (1, 1)), (0, 1), FAR), (FIRST, 1))
        self.assertEqual(nearest(2, (3, (5, 1)), (1, 1), FAR), ((2, (1, 1)), 1))
        self.assertEqual(nearest(2, (3, (5, 1)), (1, 3), (1, 1)), ((2, (1, 1)), 1))
        self.assertEqual(nearest(2, (-1, (0, 1)), (0, 1), (1, 1)), (FIRST, 1))
        self.assertEqual(nearest(3, (2, (5, 1)), (0, 1), (1, 1)), (FIRST, 2))
        self.assertEqual(nearest(3, (-2, (0, 1)), (-1, 1), (8, 1)), ((2, (8, 1)), 4))
        self.assertEqual(nearest(5, (0, (1, 5)), (0, 1), (1, 5)), ((0, (1, 5)), 0))
        self.assertEqual(nearest(5, (0, (2, 5)), (0, 1), (1, 5)), ((-1, (0, 1)), 1))
        self.assertEqual(nearest(7, (1, (4, 1)), (1, 2), FAR), ((1, (4, 1)), 0))
        self.assertEqual(nearest(7, (1, (3, 1)), (1, 2), FAR), (FIRST, 1))

    def test_by_going_on_as_long_as_the_next_spots_are_the_same(self):
        for p in PRIMES:
            for spot in near_spots(p)[::2]:
                for one, other in unlike_ends(p)[::5]:
                    self.assertEqual(self.check(p, spot, one, other), nearest_by_walking(p, spot, one, other))

    def check_by_its_neighbours(self, p, spot, one, other):
        """From the nearest spot the two sides of the line go on away from the spot: so it is, without walking there."""
        here, far = self.check(p, spot, one, other)
        sides = [next_by_words(p, here, end) for end in (one, other)]
        self.assertNotEqual(sides[0], sides[1])
        self.assertEqual([way_by_parting(p, spot, side) for side in sides], [far + 1, far + 1])

    def test_of_far_spots(self):
        for p in PRIMES:
            for spot in some_spots(p)[::2]:
                for one, other in unlike_ends(p)[::5]:
                    self.check_by_its_neighbours(p, spot, one, other)
            spot = spot_by_number(p, 200, Fraction(-1, p ** 30))
            for one, other in (((0, 1), FAR), ((-11, 13), (1, p)), (pair(Fraction(1, p ** 70)), (1, 1))):
                self.assertEqual(nearest(p, spot, one, other), nearest_by_walking(p, spot, one, other))

    def test_it_is_on_the_line_and_no_other_one_is_as_near(self):
        for p in PRIMES:
            for spot in some_spots(p)[::5]:
                for one, other in unlike_ends(p)[::9]:
                    here, far = self.check(p, spot, one, other)
                    self.assertIs(on_line(p, here, one, other), True)
                    for end in (one, other):
                        for i, further in enumerate(road_to(p, here, end, 6)):
                            self.assertEqual(way(p, spot, further), far + i)

    def test_a_spot_on_the_line_is_its_own(self):
        for p in PRIMES:
            for one, other in unlike_ends(p)[::5]:
                here = nearest(p, FIRST, one, other)[0]
                for end in (one, other):
                    for spot in road_to(p, here, end, 9):
                        self.assertEqual(nearest(p, spot, one, other), (spot, 0))

    def test_on_the_line_just_where_the_way_is_0(self):
        for p in PRIMES:
            for spot in some_spots(p)[::3]:
                for one, other in unlike_ends(p)[::5]:
                    self.assertIs(on_line(p, spot, one, other), nearest(p, spot, one, other)[1] == 0)

    def test_the_same_with_the_ends_swapped(self):
        for p in PRIMES:
            for spot in some_spots(p)[::3]:
                for one, other in unlike_ends(p)[::7]:
                    self.assertEqual(nearest(p, spot, one, other), nearest(p, spot, other, one))

    def test_where_the_spot_and_two_spots_far_along_meet(self):
        for p in PRIMES:
            for spot in near_spots(p)[::4]:
                for one, other in unlike_ends(p)[::9]:
                    here = nearest(p, spot, one, other)[0]
                    left = next_to(p, here, one)
                    right = next_to(p, here, other)
                    self.assertEqual(meeting(p, spot, left, right), here)

    def test_a_table_moves_it_to_the_nearest_of_the_led_ends(self):
        for p in PRIMES:
            for table in some_tables(p)[::2]:
                for one, other in unlike_ends(p)[::17]:
                    for spot in some_spots(p)[::19]:
                        here, far = nearest(p, spot, one, other)
                        self.assertEqual(nearest(p, moved(p, table, spot), led(table, one), led(table, other)),
                                         (moved(p, table, here), far))

    def test_deep_ends(self):
        for p in PRIMES:
            for n in (1, 9, 70):
                deep = Fraction(p) ** n
                self.assertEqual(nearest(p, FIRST, (0, 1), pair(deep)), ((n, (0, 1)), n))
                self.assertEqual(nearest(p, FIRST, pair(1 / deep), (0, 1)), ((0, (0, 1)), 0))
                self.assertEqual(nearest(p, FIRST, pair(1 / deep), pair((1 + p) / deep)),
                                 ((1 - n, pair(1 / deep)), n + 1))
                self.assertEqual(nearest(p, (n, (0, 1)), (1, 1), pair(1 + deep)),
                                 nearest_by_walking(p, (n, (0, 1)), (1, 1), pair(1 + deep)))

    def test_great_fractions(self):
        for p in PRIMES:
            one = pair(Fraction(SIXTY_FIGURES, p ** 70))
            other = pair(Fraction(-SIXTY_FIGURES, 11 ** 50))
            for spot in (FIRST, (300, (0, 1)), (-300, (0, 1)), spot_by_number(p, 300, Fraction(-1, p ** 300))):
                for ends in ((one, other), (one, FAR), (FAR, other)):
                    self.check_by_its_neighbours(p, spot, *ends)

    def test_what_was_told_is_handed_in_again(self):
        for p in PRIMES:
            table = great_tables(p)[0]
            great = product(product(table, table), product(table, table))
            spot = spot_by_number(p, 300, Fraction(-1, p ** 300))
            there = moved(p, great, spot)
            for one, other in (((1, 1), FAR), ((0, 1), (-11, 13)), ((-1, 1), pair(Fraction(1, p)))):
                here, far = self.check(p, there, led(great, one), led(great, other))
                self.assertEqual(moved(p, turned_over(great), here), nearest(p, spot, one, other)[0])
                self.assertEqual(nearest(p, here, led(great, one), led(great, other)), (here, 0))
                self.assertIs(on_line(p, here, led(great, one), led(great, other)), True)
                check_refused(self, NoLine, nearest, p, there, led(great, one), led(great, one))

    def test_like_ends_are_refused(self):
        for p in PRIMES:
            for end in ends_for(p) + [(1, 1), (SIXTY_FIGURES, 1)]:
                for spot in some_spots(p)[::7]:
                    check_refused(self, NoLine, nearest, p, spot, end, end)
            for number in numbers_for(p):
                check_refused(self, NoLine, nearest, p, FIRST, end_from(number), end_from(number))

    def test_by_name(self):
        self.assertEqual(nearest(other=FAR, one=(0, 1), spot=(1, (1, 1)), p=2), (FIRST, 1))


class TestAskedAgain(unittest.TestCase):
    def test_equal_things_are_told(self):
        for p in PRIMES:
            for k, q in some_spots(p)[::5]:
                for one in numbers_for(p)[::2]:
                    for other in numbers_for(p)[1::2]:
                        same = (k, pair(number_of(q)))
                        self.assertEqual(nearest(p, (k, q), end_from(one), end_from(other)),
                                         nearest(p, same, end_from(one), end_from(other)))
                        self.assertEqual(on_line(p, (k, q), end_from(one), end_from(other)),
                                         on_line(p, same, end_from(one), end_from(other)))

    def test_a_table_that_leads_an_end_to_another_one(self):
        for p in PRIMES:
            table = table_from(1, 2, p, 1)
            self.assertEqual(led(table, FAR), (1, p))
            self.assertEqual(nearest(p, moved(p, table, FIRST), led(table, FAR), led(table, (0, 1))),
                             (moved(p, table, FIRST), 0))


if __name__ == "__main__":
    unittest.main()

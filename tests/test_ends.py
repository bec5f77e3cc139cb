import unittest
from fractions import Fraction

from helper import (PRIMES, end_from, ends_for, great_tables, is_fraction, is_spot_by_words, led_by_numbers,
                    next_by_words, number_of, numbers_for, numbers_of, pair, product_by_numbers, rest_by_words,
                    some_spots, some_tables, spot_by_number, table_from, tables_for, way_by_parting)
from primetree.ends import led, next_to, road_to
from primetree.moves import moved
from primetree.roads import road
from primetree.tables import one_table, product, turned_over
from primetree.ties import ties

FIRST = (0, (0, 1))
FAR = "far"


class TestLed(unittest.TestCase):
    def test_ordinary(self):
        table = table_from(1, 2, 3, 4)
        self.assertEqual(led(table, (5, 1)), (7, 19))
        self.assertEqual(led(table, (0, 1)), (1, 2))
        self.assertEqual(led(table, (-1, 2)), (3, 5))
        self.assertEqual(led(table, (-2, 1)), (0, 1))
        self.assertEqual(led(table_from(Fraction(1, 2), 0, 0, 1), (3, 1)), (3, 2))

    def test_far(self):
        self.assertEqual(led(table_from(1, 2, 3, 4), FAR), (1, 3))
        self.assertEqual(led(table_from(-2, 1, 6, 0), FAR), (-1, 3))
        self.assertEqual(led(table_from(0, 1, 1, 0), FAR), (0, 1))
        self.assertEqual(led(table_from(0, 1, 1, 5), FAR), (0, 1))

    def test_far_where_c_is_nought(self):
        for numbers in ((1, 0, 0, 1), (1, 2, 0, 3), (Fraction(-1, 2), 0, 0, 7)):
            self.assertEqual(led(table_from(*numbers), FAR), FAR)
            self.assertNotEqual(led(table_from(*numbers), (0, 1)), FAR)

    def test_a_lower_part_of_nought(self):
        self.assertEqual(led(table_from(0, 1, 1, 0), (0, 1)), FAR)
        self.assertEqual(led(table_from(1, 2, 3, 4), (-4, 3)), FAR)
        self.assertEqual(led(table_from(1, 0, Fraction(1, 2), Fraction(-1, 3)), (2, 3)), FAR)

    def test_all(self):
        for p in PRIMES:
            for table in tables_for(p)[::3] + great_tables(p):
                for number in numbers_for(p):
                    told = led(table, end_from(number))
                    self.assertEqual(told, end_from(led_by_numbers(numbers_of(table), number)))
                    self.assertTrue(told == FAR or is_fraction(told))

    def test_the_end_that_is_led_to_far(self):
        for p in PRIMES:
            for table in tables_for(p)[::3] + great_tables(p):
                there = led(turned_over(table), FAR)
                self.assertEqual(led(table, there), FAR)
                self.assertEqual([end for end in ends_for(p) if led(table, end) == FAR],
                                 [end for end in ends_for(p) if end == there])

    def test_two_tables_one_behind_the_other(self):
        for p in PRIMES:
            for one in some_tables(p)[::2]:
                for other in some_tables(p)[::3]:
                    for end in ends_for(p):
                        self.assertEqual(led(product(one, other), end), led(one, led(other, end)))

    def test_the_one_table_leads_each_to_itself(self):
        for p in PRIMES:
            for end in ends_for(p):
                self.assertEqual(led(one_table(), end), end)

    def test_what_was_told_is_handed_in_again(self):
        for p in PRIMES:
            table = great_tables(p)[0]
            great = product(product(table, table), product(table, table))
            for end in ends_for(p):
                told = led(great, led(great, end))
                numbers = product_by_numbers(numbers_of(great), numbers_of(great))
                number = None if end == FAR else number_of(end)
                self.assertEqual(told, end_from(led_by_numbers(numbers, number)))
                self.assertEqual(led(turned_over(great), led(turned_over(great), told)), end)

    def test_by_name(self):
        self.assertEqual(led(end=(5, 1), table=table_from(1, 2, 3, 4)), (7, 19))


class TestNextTo(unittest.TestCase):
    def test_towards_far(self):
        self.assertEqual(next_to(2, (2, (3, 1)), FAR), (1, (1, 1)))
        self.assertEqual(next_to(3, FIRST, FAR), (-1, (0, 1)))
        self.assertEqual(next_to(5, (0, (7, 25)), FAR), (-1, (2, 25)))
        self.assertEqual(next_to(7, (-1, (1, 49)), FAR), (-2, (0, 1)))

    def test_towards_a_fraction(self):
        self.assertEqual(next_to(2, FIRST, (1, 3)), (1, (1, 1)))
        self.assertEqual(next_to(2, (1, (1, 1)), (1, 3)), (2, (3, 1)))
        self.assertEqual(next_to(2, (1, (0, 1)), (1, 3)), FIRST)
        self.assertEqual(next_to(2, FIRST, (1, 2)), (-1, (0, 1)))
        self.assertEqual(next_to(2, (-1, (0, 1)), (1, 2)), (0, (1, 2)))
        self.assertEqual(next_to(3, (1, (2, 1)), (-1, 1)), (2, (8, 1)))
        self.assertEqual(next_to(3, (1, (2, 1)), (0, 1)), FIRST)
        self.assertEqual(next_to(5, (-3, (0, 1)), (0, 1)), (-2, (0, 1)))
        self.assertEqual(next_to(7, (1, (4, 1)), (1, 2)), (2, (25, 1)))

    def test_all(self):
        for p in PRIMES:
            for spot in some_spots(p):
                for end in ends_for(p):
                    told = next_to(p, spot, end)
                    self.assertEqual(told, next_by_words(p, spot, end))
                    self.assertTrue(is_spot_by_words(p, told))
                    self.assertEqual(way_by_parting(p, spot, told), 1)

    def test_towards_its_own_fraction(self):
        for p in PRIMES:
            for k, q in some_spots(p):
                self.assertEqual(next_to(p, (k, q), q), (k + 1, q))

    def test_just_alike_and_just_not(self):
        for p in PRIMES:
            for k in (-300, -7, 0, 7, 300):
                q = Fraction(p) ** (k - 2)
                spot = (k, pair(q))
                alike = q + Fraction(11, 13) * Fraction(p) ** k
                unlike = q + Fraction(11, 13) * Fraction(p) ** (k - 1)
                self.assertEqual(next_to(p, spot, pair(alike))[0], k + 1)
                self.assertEqual(next_to(p, spot, pair(unlike)), (k - 1, spot[1]))

    def test_by_name(self):
        self.assertEqual(next_to(end=FAR, spot=FIRST, p=2), (-1, (0, 1)))


class TestRoadTo(unittest.TestCase):
    def check(self, p, spot, end, steps):
        told = road_to(p, spot, end, steps)
        self.assertIs(type(told), list)
        self.assertEqual(len(told), steps + 1)
        self.assertEqual(told[0], spot)
        self.assertEqual(len(set(told)), len(told))
        for i in range(steps):
            self.assertEqual(told[i + 1], next_by_words(p, told[i], end))
        return told

    def test_ordinary(self):
        self.assertEqual(road_to(2, FIRST, (1, 3), 3), [FIRST, (1, (1, 1)), (2, (3, 1)), (3, (3, 1))])
        self.assertEqual(road_to(2, (1, (0, 1)), (1, 1), 2), [(1, (0, 1)), FIRST, (1, (1, 1))])
        self.assertEqual(road_to(2, (1, (1, 1)), FAR, 3), [(1, (1, 1)), FIRST, (-1, (0, 1)), (-2, (0, 1))])
        self.assertEqual(road_to(3, FIRST, (-1, 1), 2), [FIRST, (1, (2, 1)), (2, (8, 1))])
        self.assertEqual(road_to(5, FIRST, (1, 5), 3), [FIRST, (-1, (0, 1)), (0, (1, 5)), (1, (1, 5))])
        self.assertEqual(road_to(7, (1, (3, 1)), (1, 2), 3), [(1, (3, 1)), FIRST, (1, (4, 1)), (2, (25, 1))])

    def test_of_no_steps(self):
        for p in PRIMES:
            for spot in some_spots(p):
                for end in ends_for(p):
                    self.assertEqual(road_to(p, spot, end, 0), [spot])

    def test_of_one_step(self):
        for p in PRIMES:
            for spot in some_spots(p)[::3]:
                for end in ends_for(p):
                    self.assertEqual(road_to(p, spot, end, 1), [spot, next_to(p, spot, end)])

    def test_of_some_steps(self):
        for p in PRIMES:
            for spot in some_spots(p)[::4]:
                for end in ends_for(p):
                    self.check(p, spot, end, 20)

    def test_of_three_hundred_steps(self):
        for p in PRIMES:
            for spot in (FIRST, (300, (0, 1)), (-300, (0, 1)), spot_by_number(p, 300, Fraction(-1, p ** 300))):
                for end in (FAR, (-11, 13), (1, p ** 70)):
                    told = self.check(p, spot, end, 300)
                    self.assertEqual(way_by_parting(p, spot, told[-1]), 300)

    def test_it_is_the_road_to_its_last_spot(self):
        for p in PRIMES:
            for spot in some_spots(p)[::9]:
                for end in ends_for(p)[::2]:
                    told = road_to(p, spot, end, 30)
                    self.assertEqual(road(p, spot, told[-1]), told)

    def test_at_last_the_spots_are_those_of_the_end(self):
        for p in PRIMES:
            for number in (Fraction(-11, 13), Fraction(1, p ** 4), Fraction(p ** 3, 11)):
                told = road_to(p, (3, (1, 1)), pair(number), 40)[-5:]
                self.assertEqual(told, [(k, pair(rest_by_words(p, k, number))) for k, q in told])
                self.assertEqual([k for k, q in told], list(range(told[0][0], told[0][0] + 5)))
            self.assertEqual(road_to(p, (3, (1, 1)), FAR, 40)[-3:], [(k, (0, 1)) for k in (-35, -36, -37)])

    def test_a_table_moves_it_to_the_road_to_the_led_end(self):
        for p in PRIMES:
            for table in some_tables(p)[::2]:
                for end in ends_for(p)[::2] + [led(turned_over(table), FAR)]:
                    for spot in some_spots(p)[::17]:
                        told = [moved(p, table, one) for one in road_to(p, spot, end, 9)]
                        self.assertEqual(told, road_to(p, moved(p, table, spot), led(table, end), 9))

    def test_a_long_one_moved(self):
        for p in PRIMES:
            table = table_from(1, 2, p, Fraction(-1, p))
            for end in (FAR, pair(Fraction(1, p * p)), (-11, 13)):
                told = [moved(p, table, one) for one in road_to(p, (2, (1, 1)), end, 300)]
                self.assertEqual(told, road_to(p, moved(p, table, (2, (1, 1))), led(table, end), 300))
            self.assertEqual(led(table, pair(Fraction(1, p * p))), FAR)

    def test_what_was_told_is_handed_in_again(self):
        for p in PRIMES:
            there = road_to(p, (300, (p ** 299, 1)), (-11, 13), 300)[-1]
            self.check(p, road_to(p, there, there[1], 300)[-1], (1, 17), 10)
            table = great_tables(p)[0]
            great = product(product(table, table), product(table, table))
            self.check(p, moved(p, great, there), led(great, (1, 17)), 10)

    def test_the_list_is_the_askers_own(self):
        told = road_to(2, FIRST, (1, 1), 2)
        told.clear()
        self.assertEqual(road_to(2, FIRST, (1, 1), 2), [FIRST, (1, (1, 1)), (2, (1, 1))])
        self.assertIsNot(road_to(2, FIRST, FAR, 0), road_to(2, FIRST, FAR, 0))

    def test_by_name(self):
        self.assertEqual(road_to(steps=1, end=FAR, spot=FIRST, p=2), [FIRST, (-1, (0, 1))])


class TestAskedAgain(unittest.TestCase):
    def test_equal_things_are_told(self):
        for p in PRIMES:
            for table in some_tables(p):
                for number in numbers_for(p):
                    self.assertEqual(led(table, end_from(number)),
                                     led(table_from(*numbers_of(table)), end_from(number)))
            for k, q in some_spots(p)[::6]:
                for number in numbers_for(p):
                    self.assertEqual(road_to(p, (k, q), end_from(number), 3),
                                     road_to(p, (k, pair(number_of(q))), end_from(number), 3))

    def test_each_tie_is_next_towards_some_end(self):
        for p in PRIMES:
            for k, q in some_spots(p)[::4]:
                ends = [FAR] + [pair(number_of(q) + c * Fraction(p) ** k) for c in range(p)]
                self.assertEqual(sorted(next_to(p, (k, q), end) for end in ends), ties(p, (k, q)))


if __name__ == "__main__":
    unittest.main()

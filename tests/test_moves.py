import unittest
from fractions import Fraction

from helper import (PRIMES, SIXTY_FIGURES, great_tables, have_one_grid, is_spot_by_words, number_of, numbers_of, pair,
                    product_by_numbers, some_spots, some_tables, spot_by_number, table_from, tables_for, way_by_parting)
from primetree.grids import spot_of, table_at, way
from primetree.moves import moved, mover, some_moved
from primetree.tables import one_table, product, stretched, turned_over
from primetree.ties import ties, within

FIRST = (0, (0, 1))
REACHES = ((2, 7), (3, 4), (5, 3), (7, 2))


def factors(p):
    return (-1, p, Fraction(1, p), Fraction(-5, 11), Fraction(SIXTY_FIGURES), Fraction(1, p ** 60))


def is_one_table_times_a_number(table):
    a, b, c, d = numbers_of(table)
    return a == d and b == 0 and c == 0


class TestMoved(unittest.TestCase):
    def test_ordinary(self):
        self.assertEqual(moved(2, table_from(1, 1, 0, 2), FIRST), (-1, (0, 1)))
        self.assertEqual(moved(2, table_from(2, 0, 0, 1), (2, (3, 1))), (3, (6, 1)))
        self.assertEqual(moved(2, table_from(1, Fraction(1, 3), 0, 1), (2, (3, 1))), (2, (2, 1)))
        self.assertEqual(moved(2, table_from(0, 1, 1, 0), (3, (2, 1))), (1, (1, 2)))
        self.assertEqual(moved(3, table_from(0, 1, 1, 0), (2, (0, 1))), (-2, (0, 1)))
        self.assertEqual(moved(3, table_from(1, 0, 3, 1), (1, (1, 1))), (1, (1, 1)))
        self.assertEqual(moved(3, table_from(1, 0, 1, 1), (1, (1, 1))), (1, (2, 1)))
        self.assertEqual(moved(5, table_from(1, 2, 0, 5), (1, (3, 1))), (0, (0, 1)))
        self.assertEqual(moved(5, table_from(1, -1, 0, 1), (1, (0, 1))), (1, (4, 1)))
        self.assertEqual(moved(7, table_from(3, 0, 0, 1), (1, (5, 1))), (1, (1, 1)))
        self.assertEqual(moved(7, table_from(1, Fraction(1, 7), 0, 1), FIRST), (0, (1, 7)))

    def test_the_first_spot_comes_to_the_spot_of_the_table(self):
        for p in PRIMES:
            for table in tables_for(p)[::9] + great_tables(p):
                self.assertEqual(moved(p, table, FIRST), spot_of(p, table))

    def test_the_grid_is_that_of_the_product(self):
        for p in PRIMES:
            for table in some_tables(p):
                for spot in some_spots(p)[::4]:
                    told = moved(p, table, spot)
                    self.assertTrue(is_spot_by_words(p, told), (p, table, spot))
                    grid = product_by_numbers(numbers_of(table), numbers_of(table_at(p, spot)))
                    self.assertTrue(have_one_grid(p, table_from(*grid), table_at(p, told)), (p, table, spot))

    def test_two_tables_one_behind_the_other_the_second_first(self):
        for p in PRIMES:
            for one in some_tables(p)[::2]:
                for other in some_tables(p)[::3]:
                    for spot in some_spots(p)[::17]:
                        self.assertEqual(moved(p, product(one, other), spot), moved(p, one, moved(p, other, spot)))

    def test_which_one_is_first_matters(self):
        one = table_from(2, 0, 0, 1)
        other = table_from(1, 1, 0, 1)
        self.assertEqual(moved(2, product(one, other), FIRST), (1, (0, 1)))
        self.assertEqual(moved(2, product(other, one), FIRST), (1, (1, 1)))

    def test_ways_stay(self):
        for p in PRIMES:
            for table in some_tables(p):
                spots = some_spots(p)[::5]
                led = [moved(p, table, spot) for spot in spots]
                for i in range(len(spots)):
                    for j in range(i):
                        self.assertEqual(way_by_parting(p, led[i], led[j]), way_by_parting(p, spots[i], spots[j]))

    def test_ties_come_to_ties(self):
        for p in PRIMES:
            for table in some_tables(p):
                for spot in some_spots(p)[::7]:
                    self.assertEqual(sorted(moved(p, table, tie) for tie in ties(p, spot)),
                                     ties(p, moved(p, table, spot)))

    def test_what_is_within_a_reach_comes_to_what_is_within_it(self):
        for p, r in REACHES:
            for table in some_tables(p)[::8]:
                told = [moved(p, table, spot) for spot in within(p, (1, (1, 1)), r - 1)]
                self.assertEqual(sorted(told), sorted(within(p, moved(p, table, (1, (1, 1))), r - 1)))

    def test_a_table_times_a_fraction_moves_as_the_table(self):
        for p in PRIMES:
            for table in some_tables(p):
                for factor in factors(p):
                    for spot in some_spots(p)[::11]:
                        self.assertEqual(moved(p, stretched(table, pair(Fraction(factor))), spot),
                                         moved(p, table, spot))

    def test_the_one_table_moves_none(self):
        for p in PRIMES:
            for spot in some_spots(p):
                self.assertEqual(moved(p, one_table(), spot), spot)

    def test_turned_over_it_moves_back(self):
        for p in PRIMES:
            for table in some_tables(p):
                for spot in some_spots(p)[::3]:
                    self.assertEqual(moved(p, turned_over(table), moved(p, table, spot)), spot)

    def test_what_was_told_is_handed_in_again(self):
        for p in PRIMES:
            table = great_tables(p)[0]
            spot = spot_by_number(p, 300, Fraction(1, p ** 300))
            for step in range(4):
                spot = moved(p, table, spot)
            great = product(product(table, table), product(table, table))
            self.assertEqual(moved(p, great, spot_by_number(p, 300, Fraction(1, p ** 300))), spot)
            self.assertLess(max(len(str(number)) for a in great for number in a), 2000)
            deep = spot
            for step in range(4):
                deep = moved(p, turned_over(table), deep)
            self.assertEqual(deep, spot_by_number(p, 300, Fraction(1, p ** 300)))

    def test_by_name(self):
        self.assertEqual(moved(spot=(2, (3, 1)), table=table_from(2, 0, 0, 1), p=2), (3, (6, 1)))


class TestMover(unittest.TestCase):
    def test_moves_each_spot_that_it_is_given(self):
        for p in PRIMES:
            for table in some_tables(p):
                move = mover(p, table)
                for spot in some_spots(p)[::6]:
                    self.assertEqual(move(spot), moved(p, table, spot))

    def test_asked_again_it_tells_the_same(self):
        move = mover(2, table_from(2, 1, 0, 1))
        self.assertEqual([move(FIRST), move((1, (1, 1))), move(FIRST)], [(1, (1, 1)), (2, (3, 1)), (1, (1, 1))])

    def test_each_mover_has_its_own_table_and_prime(self):
        movers = [mover(p, table) for p in PRIMES for table in (table_from(p, 0, 0, 1), table_from(0, 1, 1, 0))]
        told = [move((1, (0, 1))) for move in movers]
        self.assertEqual(told, [(2, (0, 1)), (-1, (0, 1))] * 4)
        self.assertEqual([mover(p, table_from(6, 0, 0, 1))(FIRST)[0] for p in PRIMES], [1, 1, 0, 0])

    def test_by_name(self):
        self.assertEqual(mover(table=table_from(2, 0, 0, 1), p=2)((2, (3, 1))), (3, (6, 1)))


class TestSomeMoved(unittest.TestCase):
    def check(self, p, table):
        told = some_moved(p, table)
        self.assertTrue(is_spot_by_words(p, told), (p, table))
        self.assertNotEqual(moved(p, table, told), told, (p, table))
        # Looked at without the spots of tables: the moved grid is not the grid of the spot.
        grid = product_by_numbers(numbers_of(table), numbers_of(table_at(p, told)))
        self.assertFalse(have_one_grid(p, table_from(*grid), table_at(p, told)), (p, table))
        return told

    def test_none_of_the_one_table_times_a_fraction(self):
        for p in PRIMES:
            self.assertIsNone(some_moved(p, one_table()))
            for factor in factors(p):
                self.assertIsNone(some_moved(p, stretched(one_table(), pair(Fraction(factor)))))
                for spot in some_spots(p):
                    self.assertEqual(moved(p, stretched(one_table(), pair(Fraction(factor))), spot), spot)

    def test_of_each_other_one_a_spot(self):
        for p in PRIMES:
            for table in tables_for(p) + great_tables(p):
                if is_one_table_times_a_number(table):
                    self.assertIsNone(some_moved(p, table))
                else:
                    self.check(p, table)

    def test_ordinary(self):
        for p in PRIMES:
            for numbers in ((1, 1, 0, 1), (1, 0, 1, 1), (0, 1, 1, 0), (-1, 0, 0, 1), (2, 0, 0, 1), (1, 0, 0, 3),
                            (1, 2, 3, 4), (5, 0, 0, 7), (0, 1, -1, 1), (1, 0, 0, Fraction(1, p)), (1, 0, 0, 1 + p),
                            (1, 0, 0, 1 - p), (1, -1, 1, 1), (1, p, 0, p), (1, 0, Fraction(1, p), 1),
                            (Fraction(1, 2), 0, 0, Fraction(-1, 2)), (3, 3, 0, 3), (3, 0, 3, 3)):
                self.check(p, table_from(*numbers))

    def test_where_all_within_nine_ways_stay(self):
        for p, r in REACHES:
            table = table_from(1, p ** 9, 0, 1)
            for spot in within(p, FIRST, r):
                self.assertEqual(moved(p, table, spot), spot)
            for spot in ((9, (0, 1)), (9, (p ** 9 - 1, 1)), spot_by_number(p, -1, Fraction(1, p ** 5)), (-9, (0, 1))):
                self.assertEqual(way(p, FIRST, spot), 9)
                self.assertEqual(moved(p, table, spot), spot)
            self.assertGreater(way(p, FIRST, self.check(p, table)), 9)

    def test_deep_ones(self):
        for p in PRIMES:
            for n in (1, 2, 9, 10, 60, 70):
                deep = p ** n
                for numbers in ((1, deep, 0, 1), (1, 0, deep, 1), (1 + deep, 0, 0, 1), (1, 0, 0, 1 + deep),
                                (1, 0, 0, 1 - deep), (1 + deep, deep, deep, 1), (1, deep, deep, 1), (1, -deep, deep, 1),
                                (deep, 1, 0, deep), (deep, 0, 1, deep), (1, Fraction(1, deep), 0, 1),
                                (1, 0, Fraction(1, deep), 1), (1, deep, Fraction(1, deep), 2), (0, deep, 1, 0),
                                (0, 1, deep, 0), (deep, 0, 0, 1), (1, 0, 0, deep), (1, deep, deep * p, 1 + deep),
                                (11, 11 * deep, 0, 11), (Fraction(1, deep), 1, 0, Fraction(1, deep)),
                                (Fraction(1, 11), 0, Fraction(deep, 13), Fraction(1, 11))):
                    self.check(p, table_from(*numbers))

    def test_where_all_about_a_far_spot_stay(self):
        for p in PRIMES:
            for spot in some_spots(p):
                there = table_at(p, spot)
                for numbers in ((1, p ** 40, 0, 1), (1, 0, p ** 40, 1), (1 + p ** 40, 0, 0, 1), (1, 1, 0, 1)):
                    table = product(product(there, table_from(*numbers)), turned_over(there))
                    self.assertEqual(moved(p, table, spot), spot)
                    self.check(p, table)

    def test_what_was_told_is_handed_in_again(self):
        for p in PRIMES:
            table = table_from(1 + p ** 60, p ** 61, p ** 62, 1)
            for step in range(4):
                table = product(table, table)
            told = self.check(p, table)
            self.assertEqual(moved(p, turned_over(table), moved(p, table, told)), told)

    def test_of_sixty_figures(self):
        for p in PRIMES:
            for numbers in ((SIXTY_FIGURES, 0, 0, SIXTY_FIGURES - 1),
                            (Fraction(SIXTY_FIGURES, 10 ** 59), 0, 0, Fraction(SIXTY_FIGURES - 1, 10 ** 59)),
                            (1, SIXTY_FIGURES, Fraction(1, SIXTY_FIGURES), -1), (1, 0, Fraction(1, SIXTY_FIGURES), 1)):
                self.check(p, table_from(*numbers))

    def test_by_name(self):
        self.assertIsNone(some_moved(table=one_table(), p=2))


class TestAskedAgain(unittest.TestCase):
    def test_equal_things_are_told(self):
        for p in PRIMES:
            for table in some_tables(p):
                same = table_from(*numbers_of(table))
                self.assertEqual(some_moved(p, table), some_moved(p, same))
                for k, q in some_spots(p)[::8]:
                    self.assertEqual(moved(p, table, (k, q)), moved(p, same, (k, pair(number_of(q)))))


if __name__ == "__main__":
    unittest.main()

import unittest
from fractions import Fraction

from helper import (PRIMES, SIXTY_FIGURES, great_tables, have_one_grid, is_spot_by_words, is_table, is_whole, number_of,
                    numbers_of, pair, power_of_number, powers_in, product_by_numbers, some_spots, spot_by_number,
                    table_from, tables_for, turned_by_numbers, way_by_parting)
from primetree.fractions import rest_by
from primetree.grids import is_spot, lies_in, spot_of, table_at, two_numbers, way
from primetree.tables import product, stretched, table_of, turned_over


def numbers_by_words(p, table):
    a, b, c, d = table
    low = min(powers_in(p, table))
    return (low, power_of_number(p, a * d - b * c) - low)


class TestIsSpot(unittest.TestCase):
    def test_spots(self):
        for p, spot in ((2, (0, (0, 1))), (2, (2, (15, 4))), (2, (-1, (0, 1))), (2, (2, (3, 1))), (2, (0, (1, 2))),
                        (2, (-1, (1, 4))), (3, (1, (2, 1))), (3, (0, (26, 27))), (5, (2, (24, 1))),
                        (7, (-2, (6, 343))), (7, (1, (48, 7)))):
            self.assertIs(is_spot(p, spot), True, (p, spot))

    def test_first_numbers_from_300_below_to_300_above_nought(self):
        for p in PRIMES:
            for k in range(-300, 301):
                self.assertIs(is_spot(p, (k, (0, 1))), True)
                self.assertIs(is_spot(p, (k, pair(Fraction(p) ** k))), False)
                self.assertIs(is_spot(p, (k, pair(Fraction(p) ** (k - 1)))), True)
                self.assertIs(is_spot(p, (k, pair(Fraction(-1, p) * Fraction(p) ** k))), False)
            for k in (-300, -299, -1, 0, 1, 299, 300):
                greatest = Fraction(p) ** k - Fraction(1, p ** 301)
                self.assertIs(is_spot(p, (k, pair(greatest))), True)

    def test_every_small_one_is_a_spot_or_none(self):
        for p in PRIMES:
            for k in range(-3, 4):
                for top in range(-3, 40):
                    for bottom in range(-2, 30):
                        thing = (k, (top, bottom))
                        self.assertIs(is_spot(p, thing), is_spot_by_words(p, thing), (p, thing))

    def test_truths_are_no_whole_numbers(self):
        for thing in ((True, (0, 1)), (False, (0, 1)), (True, (1, 1)), (2, (True, 1)), (2, (False, 1)), (2, (0, True)),
                      (2, (3, True)), (2, (True, 2)), (False, (False, True))):
            for p in PRIMES:
                self.assertIs(is_spot(p, thing), False, thing)

    def test_lists_are_no_tuples(self):
        for thing in ([0, (0, 1)], (0, [0, 1]), [0, [0, 1]], [(0, (0, 1))], ([0], (0, 1)), ((0, (0, 1)),)):
            self.assertIs(is_spot(2, thing), False, thing)

    def test_other_things(self):
        for thing in (None, True, False, 0, 1, -1, 2 ** 300, 0.0, 1.5, float("nan"), "", "0:0", "2:15/4", "ab", b"ab",
                      [], {}, (), set(), frozenset(), {0: (0, 1)}, {0, 1}, range(2), object(), object, len, int,
                      Fraction(1, 2), lambda: 0, iter(()), ValueError("no"), NotImplemented, ...):
            self.assertIs(is_spot(2, thing), False, thing)
            for pair_like in ((0, thing), (thing, (0, 1)), (0, (thing, 1)), (0, (thing, thing)), (thing, thing)):
                if not is_whole(thing):
                    self.assertIs(is_spot(2, pair_like), False, pair_like)
            if not is_whole(thing):
                self.assertIs(is_spot(2, (2, (0, thing))), False, thing)

    def test_tuples_too_long_or_too_short(self):
        for thing in ((), (0,), ((0, 1),), (0, 0, 1), (0, (0, 1), 0), (0, (0, 1), None), (0, (0, 1), (0, 1)), (0, ()),
                      (0, (0,)), (0, (0, 1, 1)), (0, 0), ((0, 1), 0), ((0, 1), (0, 1)), (0, ((0, 1), 1))):
            self.assertIs(is_spot(2, thing), False, thing)

    def test_fractions_of_another_form(self):
        for p in PRIMES:
            for a in ((0, 0), (1, 0), (0, 2), (0, -1), (0, p), (1, -1), (-1, -1), (p, p), (2 * p, p), (1, -p), (-1, -p),
                      (p, p * p), (0, p ** 300), (p, -p)):
                self.assertIs(is_spot(p, (3, a)), False, (p, a))

    def test_below_nought_or_not_below_the_power(self):
        for p in PRIMES:
            for k in (-300, -5, -1, 0, 1, 5, 300):
                size = Fraction(p) ** k
                little = Fraction(1, p ** 300)
                for number in (-size, -little, -size / p, size, size + little, 2 * size, size * p, Fraction(p) ** 301):
                    self.assertIs(is_spot(p, (k, pair(number))), False, (p, k))

    def test_another_factor_below(self):
        for p in PRIMES:
            for factor in (2, 3, 5, 7, 11, 6, 10, SIXTY_FIGURES):
                if factor % p != 0:
                    for number in (Fraction(1, factor), Fraction(1, factor * p), Fraction(1, factor * p ** 300)):
                        for k in (0, 1, 300):
                            self.assertIs(is_spot(p, (k, pair(number))), False, (p, k, number))

    def test_another_prime_settles_it_otherwise(self):
        self.assertIs(is_spot(2, (2, (15, 4))), True)
        for p in (3, 5, 7):
            self.assertIs(is_spot(p, (2, (15, 4))), False)

    def test_very_great_numbers_come_to_an_end(self):
        for p in PRIMES:
            for k in (10 ** 9, -10 ** 9, 10 ** 60, -10 ** 60):
                self.assertIn(is_spot(p, (k, (0, 1))), (True, False))
                self.assertIn(is_spot(p, (k, (1, p))), (True, False))

    def test_what_was_told_is_one(self):
        for p in PRIMES:
            for table in great_tables(p):
                deep = product(product(table, table), product(table, table))
                self.assertIs(is_spot(p, spot_of(p, deep)), True)

    def test_by_name(self):
        self.assertIs(is_spot(thing=(0, (0, 1)), p=2), True)


class TestSpotOf(unittest.TestCase):
    def check(self, p, table):
        told = spot_of(p, table)
        self.assertTrue(is_spot_by_words(p, told), (p, table))
        self.assertIs(is_spot(p, told), True)
        self.assertTrue(have_one_grid(p, table, table_at(p, told)), (p, table))

    def test_the_worked_case(self):
        self.assertEqual(spot_of(2, table_from(1, 1, 0, 2)), (-1, (0, 1)))

    def test_ordinary(self):
        self.assertEqual(spot_of(2, table_from(1, 0, 0, 1)), (0, (0, 1)))
        self.assertEqual(spot_of(2, table_from(4, Fraction(15, 4), 0, 1)), (2, (15, 4)))
        self.assertEqual(spot_of(2, table_from(0, 1, 1, 0)), (0, (0, 1)))
        self.assertEqual(spot_of(2, table_from(0, 1, 4, 0)), (-2, (0, 1)))
        self.assertEqual(spot_of(2, table_from(4, Fraction(1, 3), 0, 1)), (2, (3, 1)))
        self.assertEqual(spot_of(3, table_from(3, -1, 0, 1)), (1, (2, 1)))
        self.assertEqual(spot_of(3, table_from(1, 0, 1, 9)), (2, (1, 1)))
        self.assertEqual(spot_of(5, table_from(1, 2, 5, 5)), (-1, (0, 1)))
        self.assertEqual(spot_of(7, table_from(2, 1, 7, 1)), (0, (0, 1)))
        self.assertEqual(spot_of(7, table_from(1, 0, 3, 49)), (2, (33, 1)))

    def test_the_grid_is_that_of_the_table(self):
        for p in PRIMES:
            for table in tables_for(p) + great_tables(p):
                self.check(p, table)

    def test_a_stretched_table_has_the_same_spot(self):
        for p in PRIMES:
            for table in tables_for(p)[::7] + great_tables(p):
                for factor in (-1, p, Fraction(1, p), Fraction(-5, 11), Fraction(SIXTY_FIGURES)):
                    self.assertEqual(spot_of(p, stretched(table, pair(Fraction(factor)))), spot_of(p, table))

    def test_another_table_of_the_same_grid_has_the_same_spot(self):
        for p in PRIMES:
            firm = [table_from(0, 1, 1, 0), table_from(1, 1, 0, 1), table_from(1, 0, -1, 1), table_from(p, 1, 1, 0),
                    table_from(1, Fraction(p, 11), 0, Fraction(-11, 13))]
            for table in tables_for(p)[::11] + great_tables(p):
                for other in firm:
                    self.assertEqual(spot_of(p, product(table, other)), spot_of(p, table), (p, table, other))

    def test_where_both_have_the_least_power_either_tells_it(self):
        for p in PRIMES:
            table = table_from(p, 1, 1, 1)
            a, b, c, d = numbers_of(table)
            k = spot_of(p, table)[0]
            self.assertEqual(rest_by(p, k, pair(a / c)), rest_by(p, k, pair(b / d)))
            self.check(p, table)

    def test_each_spot_is_that_of_its_table(self):
        for p in PRIMES:
            for spot in some_spots(p):
                self.assertEqual(spot_of(p, table_at(p, spot)), spot)

    def test_unlike_spots_have_unlike_grids(self):
        for p in PRIMES:
            spots = some_spots(p)
            for one in spots[::3]:
                for other in spots[::2]:
                    self.assertIs(have_one_grid(p, table_at(p, one), table_at(p, other)), one == other)

    def test_by_name(self):
        self.assertEqual(spot_of(table=table_from(1, 1, 0, 2), p=2), (-1, (0, 1)))


class TestTableAt(unittest.TestCase):
    def test_ordinary(self):
        self.assertEqual(table_at(2, (2, (15, 4))), ((4, 1), (15, 4), (0, 1), (1, 1)))
        self.assertEqual(table_at(3, (-1, (0, 1))), ((1, 3), (0, 1), (0, 1), (1, 1)))
        self.assertEqual(table_at(7, (0, (0, 1))), ((1, 1), (0, 1), (0, 1), (1, 1)))

    def test_all(self):
        for p in PRIMES:
            for spot in some_spots(p):
                told = table_at(p, spot)
                self.assertTrue(is_table(told))
                self.assertEqual(told, (pair(Fraction(p) ** spot[0]), spot[1], (0, 1), (1, 1)))
                self.assertEqual(table_of(*told), told)

    def test_by_name(self):
        self.assertEqual(table_at(spot=(1, (1, 1)), p=5), table_from(5, 1, 0, 1))


class TestTwoNumbers(unittest.TestCase):
    def test_ordinary(self):
        self.assertEqual(two_numbers(2, table_from(1, 0, 0, 1)), (0, 0))
        self.assertEqual(two_numbers(2, table_from(1, 1, 0, 2)), (0, 1))
        self.assertEqual(two_numbers(2, table_from(4, 0, 0, Fraction(1, 2))), (-1, 2))
        self.assertEqual(two_numbers(3, table_from(0, 9, 3, 0)), (1, 2))
        self.assertEqual(two_numbers(5, table_from(5, 10, 15, 5)), (1, 2))
        self.assertEqual(two_numbers(7, table_from(7, 10, 15, 5)), (0, 0))

    def test_all(self):
        for p in PRIMES:
            for table in tables_for(p) + great_tables(p):
                told = two_numbers(p, table)
                self.assertIs(type(told), tuple)
                self.assertTrue(is_whole(told[0]) and is_whole(told[1]))
                self.assertEqual(told, numbers_by_words(p, numbers_of(table)))
                self.assertLessEqual(told[0], told[1])

    def test_by_name(self):
        self.assertEqual(two_numbers(table=table_from(2, 0, 0, 1), p=2), (0, 1))


class TestLiesIn(unittest.TestCase):
    def test_ordinary(self):
        self.assertEqual(lies_in(2, (0, (0, 1)), (2, (3, 1))), (0, 2))
        self.assertEqual(lies_in(2, (2, (3, 1)), (0, (0, 1))), (-2, 0))
        self.assertEqual(lies_in(2, (1, (0, 1)), (1, (1, 1))), (-1, 1))
        self.assertEqual(lies_in(3, (0, (0, 1)), (0, (1, 9))), (-2, 2))
        self.assertEqual(lies_in(5, (2, (7, 1)), (1, (3, 1))), (-2, 1))
        self.assertEqual(lies_in(7, (-3, (0, 1)), (-3, (0, 1))), (0, 0))

    def test_as_told_by_their_tables(self):
        for p in PRIMES:
            for one in some_spots(p)[::3]:
                for other in some_spots(p)[::2]:
                    told = lies_in(p, one, other)
                    turned = product_by_numbers(turned_by_numbers(numbers_of(table_at(p, one))),
                                                numbers_of(table_at(p, other)))
                    self.assertEqual(told, numbers_by_words(p, turned))
                    self.assertEqual(told, two_numbers(p, product(turned_over(table_at(p, one)), table_at(p, other))))
                    self.assertIs(type(told), tuple)

    def test_the_other_way_round_both_are_changed_and_negated(self):
        for p in PRIMES:
            for one in some_spots(p)[::3]:
                for other in some_spots(p)[::2]:
                    low, high = lies_in(p, one, other)
                    self.assertEqual(lies_in(p, other, one), (-high, -low))

    def test_by_name(self):
        self.assertEqual(lies_in(other=(2, (3, 1)), one=(0, (0, 1)), p=2), (0, 2))


class TestWay(unittest.TestCase):
    def test_ordinary(self):
        self.assertEqual(way(2, (0, (0, 1)), (2, (3, 1))), 2)
        self.assertEqual(way(2, (1, (0, 1)), (1, (1, 1))), 2)
        self.assertEqual(way(2, (-1, (0, 1)), (2, (15, 4))), 5)
        self.assertEqual(way(3, (0, (0, 1)), (0, (1, 9))), 4)
        self.assertEqual(way(5, (2, (7, 1)), (1, (3, 1))), 3)
        self.assertEqual(way(7, (300, (0, 1)), (-300, (0, 1))), 600)

    def test_a_spot_and_itself(self):
        for p in PRIMES:
            for spot in some_spots(p):
                self.assertEqual(way(p, spot, spot), 0)
                self.assertEqual(lies_in(p, spot, spot), (0, 0))

    def test_the_same_both_ways(self):
        for p in PRIMES:
            spots = some_spots(p)
            for one in spots[::2]:
                for other in spots:
                    told = way(p, one, other)
                    self.assertTrue(is_whole(told))
                    self.assertEqual(told, way(p, other, one))
                    self.assertEqual(told, way_by_parting(p, one, other), (p, one, other))
                    self.assertIs(told == 0, one == other)

    def test_the_greater_less_the_lesser(self):
        for p in PRIMES:
            for one in some_spots(p)[::5]:
                for other in some_spots(p):
                    low, high = lies_in(p, one, other)
                    self.assertEqual(way(p, one, other), high - low)

    def test_first_numbers_of_300_and_the_longest_fractions(self):
        for p in PRIMES:
            one = spot_by_number(p, 300, Fraction(1, p ** 300))
            other = spot_by_number(p, 300, 0)
            self.assertEqual(way(p, one, other), 1200)
            self.assertEqual(way(p, one, spot_by_number(p, -300, 0)), 600)

    def test_what_was_told_is_handed_in_again(self):
        for p in PRIMES:
            table = table_from(p ** 60, Fraction(11, p ** 59), Fraction(1, 13), Fraction(1, p ** 60))
            told = [spot_of(p, table)]
            for step in range(3):
                table = product(table, table)
                told.append(spot_of(p, table))
            for one in told:
                self.assertLess(max(len(str(one[1][0])), len(str(one[1][1]))), 2000)
                for other in told:
                    self.assertEqual(way(p, one, other), way_by_parting(p, one, other))

    def test_by_name(self):
        self.assertEqual(way(other=(2, (3, 1)), one=(0, (0, 1)), p=2), 2)


class TestAskedAgain(unittest.TestCase):
    def test_equal_things_are_told(self):
        for p in PRIMES:
            tables = tables_for(p)[::9]
            self.assertEqual([spot_of(p, table) for table in tables],
                             [spot_of(p, table_from(*numbers_of(table))) for table in tables])
            self.assertEqual([two_numbers(p, table) for table in tables],
                             [two_numbers(p, table_from(*numbers_of(table))) for table in tables])
            spots = some_spots(p)
            same = [(k, pair(number_of(q))) for k, q in spots]
            self.assertEqual([way(p, spots[0], spot) for spot in spots], [way(p, same[0], spot) for spot in same])


if __name__ == "__main__":
    unittest.main()

import unittest
from fractions import Fraction

from helper import (PRIMES, SIXTY_FIGURES, great_tables, is_table, is_whole, numbers_of, pair, power_of_number,
                    powers_in, product_by_numbers, some_numbers, some_spots, some_tables, table_from, tables_for,
                    way_by_parting)
from primetree.apart import is_firm, taken_apart
from primetree.grids import table_at, two_numbers
from primetree.moves import moved
from primetree.tables import one_table, product, stretched, turned_over

FIRST = (0, (0, 1))


def is_firm_by_words(p, table):
    a, b, c, d = numbers_of(table)
    return min(powers_in(p, (a, b, c, d))) >= 0 and power_of_number(p, a * d - b * c) == 0


def firm_tables(p):
    unit = Fraction(p + 1, 2 * p - 1)
    return [table_from(*numbers) for numbers in (
        (1, 0, 0, 1), (0, 1, 1, 0), (1, 1, 0, 1), (1, 0, p, -1), (p, 1, 1, 0), (unit, p, p ** 60, 1 / unit),
        (1, 11 * p, 13, 143 * p - 1), (p, p + 1, p - 1, p), (Fraction(p, 11), 1, -1, Fraction(p, 13)),
        (1 + p, p, p, 1 - p), (0, unit, unit, 0), (0, -1, 1, 1))]


class TestIsFirm(unittest.TestCase):
    def test_firm(self):
        for p in PRIMES:
            for table in firm_tables(p):
                self.assertIs(is_firm(p, table), True)
            self.assertIs(is_firm(p, one_table()), True)

    def test_firm_but_for_one_fraction(self):
        for p in PRIMES:
            low = Fraction(1, p)
            for numbers in ((1, low, 0, 1), (1, 0, low, 1), (1, 0, 0, low), (low, 0, 0, 1), (low, 1, -1, 0),
                            (0, 1, -1, low), (1, Fraction(-11, p ** 5), 0, 1), (1, 0, Fraction(13, 11 * p), 1)):
                self.assertIs(is_firm(p, table_from(*numbers)), False)
                wrong = [number for number in numbers if number != 0 and power_of_number(p, Fraction(number)) < 0]
                self.assertEqual(len(wrong), 1)

    def test_the_measures_power_is_not_0(self):
        for p in PRIMES:
            for numbers in ((p, 0, 0, 1), (1, 0, 0, p), (p, p, 0, 1), (1, 1, 1, 1 + p), (1, 1, 1 - p, 1), (p, 0, 0, p),
                            (0, 1, p * p, 0), (1, 2, 1, 2 + p ** 9)):
                self.assertIs(is_firm(p, table_from(*numbers)), False)

    def test_the_measure_alone_does_not_settle_it(self):
        for p in PRIMES:
            for numbers in ((p, 0, 0, Fraction(1, p)), (0, p, Fraction(-1, p), 0), (1, Fraction(1, p), 0, 1),
                            (Fraction(1, p), Fraction(1, p), Fraction(1, p), Fraction(1 + p * p, p))):
                a, b, c, d = numbers
                self.assertEqual(a * d - b * c, 1)
                self.assertIs(is_firm(p, table_from(*numbers)), False)

    def test_by_another_prime(self):
        self.assertIs(is_firm(2, table_from(3, 0, 0, 1)), True)
        self.assertIs(is_firm(3, table_from(3, 0, 0, 1)), False)
        self.assertIs(is_firm(5, table_from(1, Fraction(1, 7), 0, 1)), True)
        self.assertIs(is_firm(7, table_from(1, Fraction(1, 7), 0, 1)), False)

    def test_of_all(self):
        for p in PRIMES:
            told = []
            for table in tables_for(p) + great_tables(p):
                told.append(is_firm(p, table))
                self.assertIs(told[-1], is_firm_by_words(p, table))
            self.assertEqual(set(told), {True, False})

    def test_products_and_tables_turned_over_are_firm(self):
        for p in PRIMES:
            for one in firm_tables(p):
                self.assertIs(is_firm(p, turned_over(one)), True)
                for other in firm_tables(p):
                    self.assertIs(is_firm(p, product(one, other)), True)

    def test_times_a_fraction(self):
        for p in PRIMES:
            for table in firm_tables(p):
                for number in some_numbers(p):
                    self.assertIs(is_firm(p, stretched(table, pair(number))), power_of_number(p, number) == 0)

    def test_a_firm_table_keeps_the_first_spot(self):
        for p in PRIMES:
            for table in tables_for(p) + firm_tables(p):
                if is_firm(p, table):
                    self.assertEqual(moved(p, table, FIRST), FIRST)

    def test_what_was_told_is_handed_in_again(self):
        for p in PRIMES:
            great = table_from(SIXTY_FIGURES, 10 ** 59, 10 ** 59 + 1, SIXTY_FIGURES - 2)
            for step in range(4):
                great = product(great, great)
                self.assertIs(is_firm(p, great), is_firm_by_words(p, great))

    def test_by_name(self):
        self.assertIs(is_firm(table=one_table(), p=2), True)


class TestTakenApart(unittest.TestCase):
    def check(self, p, table):
        told = taken_apart(p, table)
        self.assertIs(type(told), tuple)
        self.assertEqual(len(told), 4)
        left, low, high, right = told
        for firm in (left, right):
            self.assertTrue(is_table(firm), (p, table))
            self.assertTrue(is_firm_by_words(p, firm), (p, table))
            self.assertIs(is_firm(p, firm), True)
        self.assertTrue(is_whole(low) and is_whole(high))
        a, b, c, d = numbers_of(table)
        self.assertEqual(low, min(powers_in(p, (a, b, c, d))))
        self.assertEqual(high, power_of_number(p, a * d - b * c) - low)
        middle = (Fraction(p) ** low, 0, 0, Fraction(p) ** high)
        whole = product_by_numbers(product_by_numbers(numbers_of(left), middle), numbers_of(right))
        self.assertEqual(whole, (a, b, c, d), (p, table))
        return told

    def test_ordinary(self):
        for p in PRIMES:
            for numbers, low, high in (((1, 0, 0, 1), 0, 0), ((p, 0, 0, 1), 0, 1), ((1, 0, 0, p), 0, 1),
                                       ((0, 1, 1, 0), 0, 0), ((0, p, 1, 0), 0, 1), ((p, p, 0, p), 1, 1),
                                       ((1, Fraction(1, p), 0, 1), -1, 1), ((1, 0, Fraction(1, p * p), 1), -2, 2),
                                       ((p * p, 0, 0, p ** 5), 2, 5), ((1, 1, 1, 1 + p ** 4), 0, 4)):
                self.assertEqual(self.check(p, table_from(*numbers))[1:3], (low, high))

    def test_low_and_high_alike(self):
        for p in PRIMES:
            for table in firm_tables(p):
                for n in (-70, -1, 0, 1, 70):
                    told = self.check(p, stretched(table, pair(Fraction(p) ** n)))
                    self.assertEqual(told[1:3], (n, n))

    def test_low_and_high_unlike(self):
        for p in PRIMES:
            for one in firm_tables(p)[::2]:
                for other in firm_tables(p)[1::2]:
                    for low, high in ((-1, 0), (0, 1), (-70, 70), (3, 9), (-5, -4)):
                        middle = table_from(Fraction(p) ** low, 0, 0, Fraction(p) ** high)
                        told = self.check(p, product(product(one, middle), other))
                        self.assertEqual(told[1:3], (low, high))

    def test_the_least_power_in_each_place(self):
        for p in PRIMES:
            for place in range(4):
                numbers = [p, p * p * 11, p ** 3 * 13, p ** 3]
                numbers[place] = Fraction(2 * p - 1, p)
                self.check(p, table_from(*numbers))
                for other in range(4):
                    if other != 3 - place:
                        numbers = [1, 11, -13, 17]
                        numbers[other] = 0
                        numbers[place] = Fraction(1, p ** 3)
                        numbers[3 - place] = p
                        self.check(p, table_from(*numbers))

    def test_of_all(self):
        for p in PRIMES:
            for table in tables_for(p) + great_tables(p):
                self.assertEqual(self.check(p, table)[1:3], two_numbers(p, table))

    def test_the_first_spot_is_moved_by_high_less_low(self):
        for p in PRIMES:
            for table in tables_for(p)[::5] + great_tables(p):
                left, low, high, right = taken_apart(p, table)
                self.assertEqual(way_by_parting(p, FIRST, moved(p, table, FIRST)), high - low)

    def test_spots_tables(self):
        for p in PRIMES:
            for spot in some_spots(p):
                self.check(p, table_at(p, spot))
                self.check(p, turned_over(table_at(p, spot)))

    def test_what_was_told_is_handed_in_again(self):
        for p in PRIMES:
            for table in great_tables(p):
                great = product(product(table, table), product(table, table))
                left, low, high, right = self.check(p, great)
                self.assertEqual(self.check(p, left)[1:3], (0, 0))
                self.assertEqual(self.check(p, right)[1:3], (0, 0))
                self.assertEqual(moved(p, left, FIRST), FIRST)

    def test_asked_again(self):
        for p in PRIMES:
            for table in some_tables(p):
                self.assertEqual(taken_apart(p, table), taken_apart(p, table_from(*numbers_of(table))))
                self.assertEqual(is_firm(p, table), is_firm(p, table_from(*numbers_of(table))))

    def test_by_name(self):
        self.assertEqual(taken_apart(table=table_from(4, 0, 0, 2), p=2)[1:3], (1, 2))


if __name__ == "__main__":
    unittest.main()

import unittest
from fractions import Fraction
from itertools import product as each

from helper import (SIXTY_FIGURES, check_refused, is_fraction, is_table, number_of, numbers_of, pair,
                    product_by_numbers, table_from)
from primetree.errors import NoTable
from primetree.tables import measure, one_table, product, stretched, table_of, trace, turned_over

ONE = ((1, 1), (0, 1), (0, 1), (1, 1))
NUMBERS = (Fraction(0), Fraction(1), Fraction(-1), Fraction(2), Fraction(-3, 4), Fraction(5, 6))
FOURS = list(each(NUMBERS, repeat=4))
TABLES = [table_from(*four) for four in FOURS if four[0] * four[3] != four[1] * four[2]]
GREAT_TABLES = [table_from(SIXTY_FIGURES, Fraction(1, SIXTY_FIGURES), -SIXTY_FIGURES, Fraction(7 ** 70, 2 ** 190)),
                table_from(0, Fraction(SIXTY_FIGURES, 10 ** 59), Fraction(-1, 3 ** 120), 0),
                table_from(2 ** 199, 1, 0, Fraction(1, 2 ** 199)),
                table_from(10 ** 59 + 1, 10 ** 59, 10 ** 59, 10 ** 59 - 1)]
SOME_TABLES = TABLES[::29] + GREAT_TABLES
FACTORS = (Fraction(1), Fraction(-1), Fraction(2), Fraction(-3, 4), Fraction(1, SIXTY_FIGURES), Fraction(7 ** 70))


class TestTableOf(unittest.TestCase):
    def test_ordinary(self):
        self.assertEqual(table_of((1, 2), (0, 1), (-3, 1), (4, 5)), ((1, 2), (0, 1), (-3, 1), (4, 5)))
        self.assertEqual(table_of((0, 1), (1, 1), (1, 1), (0, 1)), ((0, 1), (1, 1), (1, 1), (0, 1)))

    def test_all_small_ones(self):
        for four in FOURS:
            handed = table_from(*four)
            if four[0] * four[3] == four[1] * four[2]:
                check_refused(self, NoTable, table_of, *handed)
            else:
                self.assertEqual(table_of(*handed), handed)
                self.assertTrue(is_table(table_of(*handed)))

    def test_great_ones(self):
        for table in GREAT_TABLES:
            self.assertEqual(table_of(*table), table)

    def test_a_measure_of_nought_is_refused(self):
        for numbers in ((0, 0, 0, 0), (1, 0, 0, 0), (0, 1, 0, 0), (0, 0, 1, 0), (0, 0, 0, 1), (1, 1, 1, 1),
                        (1, 2, 2, 4), (0, 0, 1, 2), (1, 0, 2, 0), (Fraction(1, 2), Fraction(1, 3), 3, 2),
                        (-1, Fraction(2, 7), Fraction(7, 2), -1),
                        (SIXTY_FIGURES, 1, SIXTY_FIGURES ** 2, SIXTY_FIGURES)):
            check_refused(self, NoTable, table_of, *table_from(*numbers))

    def test_a_measure_just_off_nought_is_not(self):
        table = table_from(SIXTY_FIGURES, SIXTY_FIGURES - 1, SIXTY_FIGURES - 1, SIXTY_FIGURES - 2)
        self.assertEqual(table_of(*table), table)
        self.assertEqual(measure(table), (-1, 1))

    def test_by_name(self):
        self.assertEqual(table_of(d=(4, 1), c=(3, 1), b=(2, 1), a=(1, 1)), ((1, 1), (2, 1), (3, 1), (4, 1)))


class TestMeasureAndTrace(unittest.TestCase):
    def test_ordinary(self):
        table = ((1, 2), (2, 1), (3, 1), (4, 5))
        self.assertEqual(measure(table), (-28, 5))
        self.assertEqual(trace(table), (13, 10))
        self.assertEqual(trace(((1, 2), (1, 1), (1, 1), (-1, 2))), (0, 1))

    def test_all(self):
        for table in TABLES + GREAT_TABLES:
            a, b, c, d = numbers_of(table)
            self.assertEqual(measure(table), pair(a * d - b * c))
            self.assertEqual(trace(table), pair(a + d))
            self.assertTrue(is_fraction(measure(table)) and is_fraction(trace(table)))

    def test_the_one_table(self):
        self.assertEqual(one_table(), ONE)
        self.assertTrue(is_table(one_table()))
        self.assertEqual(measure(one_table()), (1, 1))
        self.assertEqual(trace(one_table()), (2, 1))

    def test_by_name(self):
        self.assertEqual(measure(table=table_from(1, 2, 3, 4)), (-2, 1))
        self.assertEqual(trace(table=table_from(1, 2, 3, 4)), (5, 1))


class TestProduct(unittest.TestCase):
    def test_ordinary(self):
        one = table_from(1, 2, 3, 4)
        other = table_from(5, 6, 7, Fraction(1, 2))
        self.assertEqual(product(one, other), table_from(19, 7, 43, 20))
        self.assertEqual(product(other, one), table_from(23, 34, Fraction(17, 2), 16))

    def test_all(self):
        for one in SOME_TABLES:
            for other in SOME_TABLES:
                told = product(one, other)
                self.assertEqual(numbers_of(told), product_by_numbers(numbers_of(one), numbers_of(other)))
                self.assertTrue(is_table(told))

    def test_the_measure_of_a_product(self):
        for one in SOME_TABLES:
            for other in SOME_TABLES:
                self.assertEqual(number_of(measure(product(one, other))),
                                 number_of(measure(one)) * number_of(measure(other)))

    def test_the_one_table_changes_nothing(self):
        for table in TABLES + GREAT_TABLES:
            self.assertEqual(product(one_table(), table), table)
            self.assertEqual(product(table, one_table()), table)

    def test_what_was_told_is_handed_in_again(self):
        told = GREAT_TABLES[0]
        numbers = numbers_of(told)
        while max(max(len(str(a[0])), len(str(a[1]))) for a in told) < 500:
            told = product(told, told)
            numbers = product_by_numbers(numbers, numbers)
        self.assertEqual(numbers_of(product(told, told)), product_by_numbers(numbers, numbers))
        self.assertEqual(product(turned_over(told), told), ONE)

    def test_by_name(self):
        one = table_from(1, 2, 3, 4)
        other = table_from(5, 6, 7, 9)
        self.assertEqual(product(other=other, one=one), product(one, other))
        self.assertNotEqual(product(one, other), product(other, one))


class TestTurnedOver(unittest.TestCase):
    def test_ordinary(self):
        self.assertEqual(turned_over(table_from(1, 2, 3, 4)), table_from(-2, 1, Fraction(3, 2), Fraction(-1, 2)))
        self.assertEqual(turned_over(table_from(0, 2, 3, 0)), table_from(0, Fraction(1, 3), Fraction(1, 2), 0))
        self.assertEqual(turned_over(ONE), ONE)

    def test_in_either_order_the_product_is_the_one_table(self):
        for table in TABLES + GREAT_TABLES:
            told = turned_over(table)
            self.assertTrue(is_table(told))
            self.assertEqual(product(table, told), ONE)
            self.assertEqual(product(told, table), ONE)
            self.assertEqual(turned_over(told), table)

    def test_by_name(self):
        self.assertEqual(turned_over(table=table_from(2, 0, 0, 1)), table_from(Fraction(1, 2), 0, 0, 1))


class TestStretched(unittest.TestCase):
    def test_ordinary(self):
        self.assertEqual(stretched(table_from(1, 0, -3, Fraction(1, 2)), (2, 3)),
                         table_from(Fraction(2, 3), 0, -2, Fraction(1, 3)))

    def test_all(self):
        for table in SOME_TABLES:
            for factor in FACTORS:
                told = stretched(table, pair(factor))
                self.assertEqual(numbers_of(told), tuple(number * factor for number in numbers_of(table)))
                self.assertTrue(is_table(told))

    def test_by_nought_is_refused(self):
        for table in SOME_TABLES:
            check_refused(self, NoTable, stretched, table, (0, 1))

    def test_by_name(self):
        self.assertEqual(stretched(a=(2, 1), table=ONE), table_from(2, 0, 0, 2))


class TestAskedAgain(unittest.TestCase):
    def test_equal_things_are_told(self):
        for table in SOME_TABLES:
            same = table_from(*numbers_of(table))
            for asked in (measure, trace, turned_over):
                self.assertEqual(asked(table), asked(same))
            self.assertEqual(product(table, same), product(same, table))
            self.assertEqual(stretched(table, (-2, 3)), stretched(same, (-2, 3)))
        self.assertEqual(one_table(), one_table())


if __name__ == "__main__":
    unittest.main()

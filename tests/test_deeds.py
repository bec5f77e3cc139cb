import unittest
from fractions import Fraction

from helper import (PRIMES, SIXTY_FIGURES, check_refused, great_tables, is_fraction, is_spot_by_words, is_table,
                    number_of, numbers_of, pair, power_of_number, product_by_numbers, rest_by_words, some_numbers,
                    some_spots, spot_by_number, table_from, tables_for)
from primetree.deeds import Deed, Flip, Scale, Shift, all_done, deeds_of
from primetree.errors import NoFraction
from primetree.moves import moved
from primetree.tables import one_table, product, turned_over
from primetree.texts import fraction_text

FIRST = (0, (0, 1))
ONE_NUMBERS = (1, 0, 0, 1)


def deeds_for(p):
    scales = [Scale(pair(number)) for number in some_numbers(p)]
    shifts = [Shift(pair(number)) for number in [Fraction(0)] + some_numbers(p)]
    return scales + shifts + [Flip()]


def product_of(deeds):
    """The product of the deeds' tables in the list's order."""
    told = ONE_NUMBERS
    for deed in deeds:
        told = product_by_numbers(told, numbers_of(deed.table()))
    return told


def are_one_but_for_a_factor(one, other):
    factors = {a / b for a, b in zip(one, other) if b != 0}
    return len(factors) == 1 and 0 not in factors and all(a == 0 for a, b in zip(one, other) if b == 0)


def kind_and_number(deed):
    return (type(deed), getattr(deed, "number", None))


class TestClasses(unittest.TestCase):
    def test_straight_under_the_base(self):
        for kind in (Scale, Shift, Flip):
            self.assertEqual(kind.__bases__, (Deed,))
        self.assertEqual(Deed.__bases__, (object,))
        for one, other in ((Scale, Shift), (Shift, Scale), (Scale, Flip), (Flip, Scale), (Shift, Flip), (Flip, Shift)):
            self.assertFalse(issubclass(one, other))

    def test_the_number_is_a_field(self):
        for a in ((1, 2), (-3, 1), (SIXTY_FIGURES, 10 ** 59)):
            self.assertEqual(Scale(a).number, a)
            self.assertEqual(Shift(a).number, a)
        self.assertEqual(Shift((0, 1)).number, (0, 1))

    def test_each_object_has_its_own_number(self):
        one = Scale((1, 2))
        other = Scale((3, 1))
        self.assertEqual((one.number, other.number), ((1, 2), (3, 1)))
        self.assertEqual((one.table()[0], other.table()[0]), ((1, 2), (3, 1)))

    def test_a_scale_by_nought_is_refused(self):
        check_refused(self, NoFraction, Scale, (0, 1))

    def test_a_shift_by_nought_is_not(self):
        self.assertEqual(Shift((0, 1)).table(), one_table())
        for p in PRIMES:
            for spot in some_spots(p):
                self.assertEqual(Shift((0, 1)).done(p, spot), spot)

    def test_by_name(self):
        self.assertEqual(Scale(number=(1, 2)).number, (1, 2))
        self.assertEqual(Shift(number=(1, 2)).number, (1, 2))
        self.assertEqual(Flip().done(spot=(1, (0, 1)), p=2), (-1, (0, 1)))
        self.assertEqual(all_done(spot=FIRST, deeds=[Shift((1, 2))], p=2), (0, (1, 2)))
        self.assertEqual(len(deeds_of(table=one_table())), len(deeds_of(one_table())))


class TestTable(unittest.TestCase):
    def test_ordinary(self):
        self.assertEqual(Scale((1, 2)).table(), ((1, 2), (0, 1), (0, 1), (1, 1)))
        self.assertEqual(Shift((-3, 1)).table(), ((1, 1), (-3, 1), (0, 1), (1, 1)))
        self.assertEqual(Flip().table(), ((0, 1), (1, 1), (1, 1), (0, 1)))

    def test_all(self):
        for p in PRIMES:
            for number in some_numbers(p):
                self.assertEqual(Scale(pair(number)).table(), table_from(number, 0, 0, 1))
                self.assertEqual(Shift(pair(number)).table(), table_from(1, number, 0, 1))
            for deed in deeds_for(p):
                self.assertTrue(is_table(deed.table()))


class TestDone(unittest.TestCase):
    def test_as_their_tables(self):
        for p in PRIMES:
            for deed in deeds_for(p):
                for spot in some_spots(p)[::2]:
                    told = deed.done(p, spot)
                    self.assertTrue(is_spot_by_words(p, told))
                    self.assertEqual(told, moved(p, deed.table(), spot))

    def test_scale(self):
        self.assertEqual(Scale((2, 1)).done(2, (2, (3, 1))), (3, (6, 1)))
        self.assertEqual(Scale((1, 2)).done(2, (2, (3, 1))), (1, (3, 2)))
        self.assertEqual(Scale((1, 3)).done(2, (2, (1, 1))), (2, (3, 1)))
        self.assertEqual(Scale((-1, 1)).done(3, (2, (4, 1))), (2, (5, 1)))
        self.assertEqual(Scale((3, 2)).done(3, (1, (1, 1))), (2, (6, 1)))
        self.assertEqual(Scale((2, 25)).done(5, (1, (3, 1))), (-1, (1, 25)))
        self.assertEqual(Scale((3, 1)).done(7, (1, (5, 1))), (1, (1, 1)))

    def test_scale_by_the_words(self):
        for p in PRIMES:
            for number in some_numbers(p):
                for k, q in some_spots(p):
                    rise = k + power_of_number(p, number)
                    rest = rest_by_words(p, rise, number * number_of(q))
                    self.assertEqual(Scale(pair(number)).done(p, (k, q)), (rise, pair(rest)))

    def test_shift(self):
        self.assertEqual(Shift((1, 1)).done(2, (2, (3, 1))), (2, (0, 1)))
        self.assertEqual(Shift((1, 3)).done(2, (2, (3, 1))), (2, (2, 1)))
        self.assertEqual(Shift((-1, 1)).done(3, (1, (0, 1))), (1, (2, 1)))
        self.assertEqual(Shift((1, 25)).done(5, (-1, (0, 1))), (-1, (1, 25)))
        self.assertEqual(Shift((1, 7)).done(7, (-1, (0, 1))), (-1, (0, 1)))

    def test_shift_by_the_words(self):
        for p in PRIMES:
            for number in [Fraction(0)] + some_numbers(p):
                for k, q in some_spots(p):
                    rest = rest_by_words(p, k, number + number_of(q))
                    self.assertEqual(Shift(pair(number)).done(p, (k, q)), (k, pair(rest)))

    def test_flip_with_nought(self):
        for p in PRIMES:
            for k in range(-300, 301, 20):
                self.assertEqual(Flip().done(p, (k, (0, 1))), (-k, (0, 1)))
            self.assertEqual(Flip().done(p, (1, (0, 1))), (-1, (0, 1)))

    def test_flip_with_another_fraction(self):
        self.assertEqual(Flip().done(2, (3, (2, 1))), (1, (1, 2)))
        self.assertEqual(Flip().done(2, (2, (3, 1))), (2, (3, 1)))
        self.assertEqual(Flip().done(2, (0, (1, 4))), (4, (4, 1)))
        self.assertEqual(Flip().done(3, (1, (2, 1))), (1, (2, 1)))
        self.assertEqual(Flip().done(5, (1, (2, 1))), (1, (3, 1)))
        self.assertEqual(Flip().done(7, (-1, (1, 49))), (3, (49, 1)))

    def test_flip_by_the_words(self):
        for p in PRIMES:
            for k, q in some_spots(p):
                if q != (0, 1):
                    fallen = k - 2 * power_of_number(p, number_of(q))
                    rest = rest_by_words(p, fallen, 1 / number_of(q))
                    self.assertEqual(Flip().done(p, (k, q)), (fallen, pair(rest)))

    def test_what_was_told_is_handed_in_again(self):
        for p in PRIMES:
            spot = spot_by_number(p, 300, Fraction(1, p ** 300))
            row = [Scale((p ** 70, 1)), Shift((1, SIXTY_FIGURES)), Flip(), Shift((-1, p ** 70))]
            told = [spot]
            for deed in row * 2:
                told.append(deed.done(p, told[-1]))
            for deed in reversed(row * 2):
                spot = told.pop()
                self.assertEqual(deed.back().done(p, spot), told[-1])


class TestBack(unittest.TestCase):
    def test_ordinary(self):
        self.assertEqual(kind_and_number(Scale((-2, 3)).back()), (Scale, (-3, 2)))
        self.assertEqual(kind_and_number(Scale((1, 2)).back()), (Scale, (2, 1)))
        self.assertEqual(kind_and_number(Shift((-2, 3)).back()), (Shift, (2, 3)))
        self.assertEqual(kind_and_number(Shift((0, 1)).back()), (Shift, (0, 1)))
        self.assertEqual(kind_and_number(Flip().back()), (Flip, None))

    def test_moves_back(self):
        for p in PRIMES:
            for deed in deeds_for(p):
                for spot in some_spots(p)[::3]:
                    self.assertEqual(deed.back().done(p, deed.done(p, spot)), spot)
                    self.assertEqual(deed.done(p, deed.back().done(p, spot)), spot)

    def test_back_of_back_is_the_deed(self):
        for p in PRIMES:
            for deed in deeds_for(p):
                self.assertEqual(kind_and_number(deed.back().back()), kind_and_number(deed))
                self.assertEqual(product_of([deed, deed.back()]), ONE_NUMBERS)


class TestShown(unittest.TestCase):
    def test_ordinary(self):
        for deed, text in ((Scale((1, 2)), "scale 1/2"), (Shift((-3, 1)), "shift -3"), (Flip(), "flip"),
                           (Scale((-5, 7)), "scale -5/7"), (Scale((4, 1)), "scale 4"), (Shift((0, 1)), "shift 0"),
                           (Shift((22, 7)), "shift 22/7"), (Scale((1, 1)), "scale 1")):
            self.assertEqual(deed.shown(), text)

    def test_all(self):
        for p in PRIMES:
            for number in some_numbers(p):
                self.assertEqual(Scale(pair(number)).shown(), "scale " + str(number))
                self.assertEqual(Shift(pair(number)).shown(), "shift " + str(number))
                self.assertEqual(Shift(pair(number)).shown(), "shift " + fraction_text(pair(number)))


class TestNeverChanged(unittest.TestCase):
    def test_once_made(self):
        for p in PRIMES:
            row = deeds_for(p)
            before = [(kind_and_number(deed), deed.table(), deed.shown()) for deed in row]
            for deed in row:
                deed.back()
                deed.done(p, (1, (1, 1)))
                deed.back().done(p, (1, (1, 1)))
            all_done(p, row, (1, (1, 1)))
            self.assertEqual([(kind_and_number(deed), deed.table(), deed.shown()) for deed in row], before)


class TestDeedsOf(unittest.TestCase):
    def check(self, table):
        told = deeds_of(table)
        self.assertIs(type(told), list)
        self.assertLessEqual(len(told), 4)
        for deed in told:
            self.assertIn(type(deed), (Scale, Shift, Flip))
            self.assertIsInstance(deed, Deed)
            if not isinstance(deed, Flip):
                self.assertTrue(is_fraction(deed.number))
        self.assertTrue(are_one_but_for_a_factor(product_of(told), numbers_of(table)), table)
        return told

    def test_ordinary(self):
        for numbers in ((1, 0, 0, 1), (0, 1, 1, 0), (1, 2, 3, 4), (1, 1, 0, 2), (2, 0, 0, 1), (1, 5, 0, 1),
                        (1, 0, 5, 1), (0, -1, 1, 3), (3, 1, 1, 0), (-1, 0, 0, Fraction(2, 3)), (7, 0, 0, 7),
                        (1, -1, 1, 1)):
            self.check(table_from(*numbers))

    def test_all(self):
        for p in PRIMES:
            for table in tables_for(p) + great_tables(p):
                self.check(table)

    def test_the_list_is_in_the_products_order(self):
        table = table_from(1, 2, 3, 4)
        self.assertFalse(are_one_but_for_a_factor(product_of(self.check(table)[::-1]), numbers_of(table)))

    def test_done_they_move_as_the_table(self):
        for p in PRIMES:
            for table in tables_for(p)[::40] + great_tables(p):
                for spot in some_spots(p)[::7]:
                    self.assertEqual(all_done(p, deeds_of(table), spot), moved(p, table, spot), (p, table, spot))

    def test_what_was_told_is_handed_in_again(self):
        for p in PRIMES:
            table = great_tables(p)[0]
            great = product(product(table, table), product(table, table))
            self.check(great)
            self.check(turned_over(great))
            self.check(product(self.check(great)[1].table(), self.check(great)[0].table()))
            self.assertEqual(all_done(p, deeds_of(great), FIRST), moved(p, great, FIRST))

    def test_the_list_is_the_askers_own(self):
        table = table_from(1, 2, 3, 4)
        told = deeds_of(table)
        before = [kind_and_number(deed) for deed in told]
        told.clear()
        self.assertEqual([kind_and_number(deed) for deed in deeds_of(table)], before)
        self.assertIsNot(deeds_of(table), deeds_of(table))


class TestAllDone(unittest.TestCase):
    def test_the_last_one_is_done_first(self):
        row = [Shift((1, 1)), Scale((2, 1))]
        self.assertEqual(all_done(2, row, FIRST), (1, (1, 1)))
        self.assertEqual(all_done(2, row[::-1], FIRST), (1, (0, 1)))
        self.assertEqual(all_done(5, [Flip(), Shift((1, 5)), Scale((5, 1))], FIRST), (3, (5, 1)))

    def test_none_of_them(self):
        for p in PRIMES:
            for spot in some_spots(p):
                self.assertEqual(all_done(p, [], spot), spot)

    def test_one_behind_the_other(self):
        for p in PRIMES:
            for row in (deeds_for(p), deeds_for(p)[::-1], deeds_for(p)[::3] * 2):
                for spot in some_spots(p)[::9]:
                    there = spot
                    for deed in row[::-1]:
                        there = moved(p, deed.table(), there)
                    self.assertEqual(all_done(p, row, spot), there)
                    self.assertEqual(all_done(p, [deed.back() for deed in row[::-1]], there), spot)

    def test_a_hundred_of_them(self):
        for p in PRIMES:
            self.assertEqual(all_done(p, [Scale((p, 1)), Shift((1, 1))] * 50, FIRST)[0], 50)
            self.assertEqual(all_done(p, [Shift((1, 1))] * 100, (3, (0, 1))), spot_by_number(p, 3, 100))
            self.assertEqual(all_done(p, [Flip()] * 100, (3, (p, 1))), (3, (p, 1)))
            self.assertEqual(all_done(p, [Flip()] * 99, (3, (p, 1))), (1, (1, p)))

    def test_what_is_handed_in_is_not_changed(self):
        row = [Shift((1, 1)), Scale((2, 1)), Flip()]
        same = list(row)
        all_done(2, row, (1, (1, 1)))
        self.assertEqual(len(row), 3)
        for one, other in zip(row, same):
            self.assertIs(one, other)


class TestAskedAgain(unittest.TestCase):
    def test_equal_things_are_told(self):
        for p in PRIMES:
            for table in tables_for(p)[::40] + great_tables(p):
                same = table_from(*numbers_of(table))
                self.assertEqual([kind_and_number(deed) for deed in deeds_of(table)],
                                 [kind_and_number(deed) for deed in deeds_of(same)])
                self.assertEqual(deeds_of(table), deeds_of(same))
            for deed in deeds_for(p):
                self.assertEqual(deed.back(), deed.back())
                self.assertEqual(deed.back().back(), deed)

    def test_deeds_are_equal_just_where_kind_and_number_are(self):
        row = [Scale((1, 1)), Scale((2, 1)), Shift((0, 1)), Shift((1, 1)), Shift((2, 1)), Flip()]
        same = [Scale((1, 1)), Scale((2, 1)), Shift((0, 1)), Shift((1, 1)), Shift((2, 1)), Flip()]
        for i, one in enumerate(row):
            for j, other in enumerate(same):
                self.assertIs(one == other, i == j)
            for thing in (None, one.table(), (1, 1), one.shown(), Deed):
                self.assertIs(one == thing, False)


if __name__ == "__main__":
    unittest.main()

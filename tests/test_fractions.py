import unittest
from fractions import Fraction

from helper import (PRIMES, SIXTY_FIGURES, WHOLES, check_refused, is_fraction, is_whole, number_of, pair,
                    power_of_number)
from primetree.errors import NoFraction
from primetree.fractions import is_fraction as is_told_fraction
from primetree.fractions import (alike, fraction, less, minus, over, plus, power_in, prime_power, rest_by, times)

NUMBERS = sorted({Fraction(top, bottom) for top in range(-9, 10) for bottom in (1, 2, 3, 4, 5, 6, 7, 9, 14)})
GREAT_NUMBERS = [Fraction(top, bottom) for top in (0, 1, -1, 2 ** 100, -(7 ** 50), SIXTY_FIGURES, -SIXTY_FIGURES)
                 for bottom in (1, 3 ** 40, 6 ** 70, 10 ** 59 + 1, SIXTY_FIGURES)]
SOME_NUMBERS = NUMBERS[::11] + GREAT_NUMBERS[::3]
POWERS = (-300, -299, -64, -7, -3, -2, -1, 0, 1, 2, 3, 4, 9, 63, 64, 65, 299, 300)


class TestFraction(unittest.TestCase):
    def test_ordinary(self):
        self.assertEqual(fraction(1, 2), (1, 2))
        self.assertEqual(fraction(6, 4), (3, 2))
        self.assertEqual(fraction(4, 2), (2, 1))
        self.assertEqual(fraction(-6, 4), (-3, 2))

    def test_the_bottom_is_from_1_on(self):
        self.assertEqual(fraction(1, -2), (-1, 2))
        self.assertEqual(fraction(-1, -2), (1, 2))
        self.assertEqual(fraction(6, -3), (-2, 1))

    def test_nought(self):
        for bottom in (1, -1, 2, -5, 12, SIXTY_FIGURES, -SIXTY_FIGURES):
            self.assertEqual(fraction(0, bottom), (0, 1))
        self.assertEqual(fraction(0), (0, 1))

    def test_the_bottom_left_out_is_1(self):
        for top in WHOLES:
            self.assertEqual(fraction(top), (top, 1))

    def test_all_pairs(self):
        for top in WHOLES:
            for bottom in WHOLES:
                if bottom != 0:
                    told = fraction(top, bottom)
                    self.assertEqual(told, pair(Fraction(top, bottom)), (top, bottom))
                    self.assertTrue(is_fraction(told), (top, bottom))

    def test_a_bottom_of_0_is_refused(self):
        for top in WHOLES:
            check_refused(self, NoFraction, fraction, top, 0)

    def test_by_name(self):
        self.assertEqual(fraction(top=2, bottom=6), (1, 3))
        self.assertEqual(fraction(top=2), (2, 1))


class TestIsFraction(unittest.TestCase):
    def test_every_small_pair_is_one_or_none(self):
        for top in range(-12, 13):
            for bottom in range(-12, 13):
                self.assertIs(is_told_fraction((top, bottom)), is_fraction((top, bottom)), (top, bottom))

    def test_other_things(self):
        for thing in (None, 0, 1, "1/2", "12", [1, 2], (1,), (1, 2, 3), (True, 2), (1, True), (1, None), ("1", 2), ()):
            self.assertIs(is_told_fraction(thing), False, thing)


class TestReckoning(unittest.TestCase):
    def each_pair(self):
        for one in NUMBERS[::3]:
            for other in NUMBERS:
                yield one, other
        for one in GREAT_NUMBERS:
            for other in GREAT_NUMBERS:
                yield one, other

    def check(self, told, number):
        self.assertEqual(told, pair(number))
        self.assertTrue(is_fraction(told))

    def test_ordinary(self):
        self.assertEqual(plus((1, 2), (1, 3)), (5, 6))
        self.assertEqual(plus((1, 2), (1, 2)), (1, 1))
        self.assertEqual(minus((1, 2), (1, 3)), (1, 6))
        self.assertEqual(minus((1, 3), (1, 2)), (-1, 6))
        self.assertEqual(minus((5, 7), (5, 7)), (0, 1))
        self.assertEqual(times((2, 3), (3, 4)), (1, 2))
        self.assertEqual(times((2, 3), (0, 1)), (0, 1))
        self.assertEqual(over((1, 2), (-1, 4)), (-2, 1))
        self.assertEqual(over((0, 1), (-3, 4)), (0, 1))

    def test_sums(self):
        for one, other in self.each_pair():
            self.check(plus(pair(one), pair(other)), one + other)

    def test_differences(self):
        for one, other in self.each_pair():
            self.check(minus(pair(one), pair(other)), one - other)

    def test_products(self):
        for one, other in self.each_pair():
            self.check(times(pair(one), pair(other)), one * other)

    def test_quotients(self):
        for one, other in self.each_pair():
            if other != 0:
                self.check(over(pair(one), pair(other)), one / other)

    def test_a_quotient_by_nought_is_refused(self):
        for one in NUMBERS + GREAT_NUMBERS:
            check_refused(self, NoFraction, over, pair(one), (0, 1))

    def test_less(self):
        for one, other in self.each_pair():
            self.assertIs(less(pair(one), pair(other)), one < other, (one, other))
            self.assertIs(less(pair(one), pair(one)), False)

    def test_less_is_exact(self):
        near = (SIXTY_FIGURES - 1, SIXTY_FIGURES)
        nearer = (SIXTY_FIGURES - 2, SIXTY_FIGURES - 1)
        self.assertIs(less(nearer, near), True)
        self.assertIs(less(near, nearer), False)
        self.assertIs(less(near, (1, 1)), True)

    def test_what_was_told_is_handed_in_again(self):
        # The steps to the golden number take the longest way to lowest terms.
        told = (1, 1)
        number = Fraction(1)
        for step in range(1200):
            told = plus((1, 1), over((1, 1), told))
            number = 1 + 1 / number
        self.assertEqual(told, pair(number))
        told = (SIXTY_FIGURES, 7 ** 60)
        for step in range(4):
            told = times(told, told)
        self.assertEqual(told, pair(Fraction(SIXTY_FIGURES, 7 ** 60) ** 16))

    def test_by_name(self):
        for asked in (plus, minus, times, over, less):
            self.assertEqual(asked(a=(1, 2), b=(2, 3)), asked((1, 2), (2, 3)))
        self.assertNotEqual(minus(a=(1, 2), b=(2, 3)), minus(a=(2, 3), b=(1, 2)))
        self.assertNotEqual(over(a=(1, 2), b=(2, 3)), over(a=(2, 3), b=(1, 2)))
        self.assertIs(less(b=(1, 2), a=(2, 3)), False)


class TestPowerIn(unittest.TestCase):
    def test_ordinary(self):
        self.assertEqual(power_in(2, (12, 5)), 2)
        self.assertEqual(power_in(2, (5, 12)), -2)
        self.assertEqual(power_in(3, (-5, 12)), -1)
        self.assertEqual(power_in(7, (5, 12)), 0)

    def test_nought_has_none(self):
        for p in PRIMES:
            self.assertIsNone(power_in(p, (0, 1)))

    def test_all(self):
        for p in PRIMES:
            for number in NUMBERS + GREAT_NUMBERS:
                if number != 0:
                    told = power_in(p, pair(number))
                    self.assertEqual(told, power_of_number(p, number), (p, number))
                    self.assertTrue(is_whole(told))

    def test_by_name(self):
        self.assertEqual(power_in(p=2, a=(1, 4)), -2)


class TestPrimePower(unittest.TestCase):
    def test_ordinary(self):
        self.assertEqual(prime_power(2, 3), (8, 1))
        self.assertEqual(prime_power(3, -2), (1, 9))
        self.assertEqual(prime_power(7, 1), (7, 1))
        self.assertEqual(prime_power(5, -1), (1, 5))

    def test_k_of_0_tells_one(self):
        for p in PRIMES:
            self.assertEqual(prime_power(p, 0), (1, 1))

    def test_all_to_300_off_nought(self):
        for p in PRIMES:
            for k in range(-300, 301):
                told = prime_power(p, k)
                self.assertEqual(told, pair(Fraction(p) ** k), (p, k))
                self.assertTrue(is_fraction(told))

    def test_by_name(self):
        self.assertEqual(prime_power(p=2, k=-1), (1, 2))


class TestAlike(unittest.TestCase):
    def test_ordinary(self):
        self.assertIs(alike(2, 2, (1, 1), (5, 1)), True)
        self.assertIs(alike(2, 3, (1, 1), (5, 1)), False)
        self.assertIs(alike(2, 1, (1, 1), (5, 1)), True)
        self.assertIs(alike(2, 2, (1, 3), (3, 1)), True)
        self.assertIs(alike(2, 2, (-1, 4), (15, 4)), True)
        self.assertIs(alike(2, -1, (1, 2), (0, 1)), True)
        self.assertIs(alike(2, 0, (1, 2), (0, 1)), False)
        self.assertIs(alike(3, 0, (1, 2), (0, 1)), True)

    def test_a_difference_of_nought(self):
        for p in PRIMES:
            for k in POWERS:
                for number in SOME_NUMBERS:
                    self.assertIs(alike(p, k, pair(number), pair(number)), True)

    def test_the_power_of_the_difference_settles_it(self):
        for p in PRIMES:
            for one in SOME_NUMBERS:
                for other in SOME_NUMBERS:
                    if one != other:
                        power = power_of_number(p, one - other)
                        for k in (power - 1, power, power + 1):
                            self.assertIs(alike(p, k, pair(one), pair(other)), k <= power, (p, k, one, other))

    def test_up_to_300_off_nought(self):
        for p in PRIMES:
            for k in (-299, -298, 298, 299):
                one = fraction(11, 13)
                other = plus(one, prime_power(p, k))
                self.assertIs(alike(p, k, one, other), True)
                self.assertIs(alike(p, k - 1, one, other), True)
                self.assertIs(alike(p, k + 1, one, other), False)

    def test_by_name(self):
        self.assertIs(alike(p=2, k=2, a=(1, 1), b=(5, 1)), True)
        self.assertIs(alike(p=2, k=3, a=(1, 1), b=(5, 1)), False)


class TestRestBy(unittest.TestCase):
    def check(self, p, k, number):
        told = rest_by(p, k, pair(number))
        about = (p, k, number)
        self.assertTrue(is_fraction(told), about)
        rest = number_of(told)
        self.assertGreaterEqual(rest, 0, about)
        self.assertLess(rest, Fraction(p) ** k, about)
        bottom = told[1]
        while bottom % p == 0:
            bottom //= p
        self.assertEqual(bottom, 1, about)
        if rest != number:
            self.assertGreaterEqual(power_of_number(p, number - rest), k, about)
        self.assertIs(alike(p, k, told, pair(number)), True)
        self.assertEqual(rest_by(p, k, told), told, about)

    def test_the_worked_cases(self):
        self.assertEqual(rest_by(2, 2, (1, 3)), (3, 1))
        self.assertEqual(rest_by(2, 2, (-1, 4)), (15, 4))
        self.assertEqual(rest_by(2, -1, (1, 2)), (0, 1))

    def test_ordinary(self):
        self.assertEqual(rest_by(2, 2, (1, 2)), (1, 2))
        self.assertEqual(rest_by(2, 2, (4, 1)), (0, 1))
        self.assertEqual(rest_by(2, 2, (7, 1)), (3, 1))
        self.assertEqual(rest_by(3, 1, (-1, 1)), (2, 1))
        self.assertEqual(rest_by(3, 1, (1, 2)), (2, 1))
        self.assertEqual(rest_by(3, -1, (1, 9)), (1, 9))
        self.assertEqual(rest_by(3, -1, (4, 9)), (1, 9))
        self.assertEqual(rest_by(5, 0, (7, 5)), (2, 5))
        self.assertEqual(rest_by(7, 2, (1, 14)), (172, 7))

    def test_nought(self):
        for p in PRIMES:
            for k in POWERS:
                self.assertEqual(rest_by(p, k, (0, 1)), (0, 1))

    def test_k_of_0(self):
        for p in PRIMES:
            self.assertEqual(rest_by(p, 0, (11, 1)), (0, 1))
            self.assertEqual(rest_by(p, 0, (-1, 11)), (0, 1))
            self.assertEqual(rest_by(p, 0, (-1, p)), (p - 1, p))

    def test_k_at_the_power_and_above(self):
        for p in PRIMES:
            for k in (-299, -5, -1, 0, 1, 5, 299):
                told = pair(Fraction(p) ** k)
                self.assertEqual(rest_by(p, k, told), (0, 1))
                self.assertEqual(rest_by(p, k - 1, told), (0, 1))
                self.assertEqual(rest_by(p, k + 1, told), told)

    def test_small_numbers(self):
        for p in PRIMES:
            for k in range(-4, 6):
                for number in NUMBERS:
                    self.check(p, k, number)

    def test_great_numbers_and_powers(self):
        for p in PRIMES:
            for k in POWERS:
                for number in GREAT_NUMBERS:
                    self.check(p, k, number)

    def test_bottoms_that_are_powers(self):
        for p in PRIMES:
            for k in (-300, -20, -1, 0, 1, 20, 300):
                for sunk in (1, 2, 19, 21, 299, 300):
                    self.check(p, k, Fraction(-11, p ** sunk))
                    self.check(p, k, Fraction(p ** 30 + 1, p ** sunk))

    def test_by_name(self):
        self.assertEqual(rest_by(p=2, k=2, a=(1, 3)), (3, 1))


class TestAskedAgain(unittest.TestCase):
    def test_equal_things_are_told(self):
        first = [rest_by(p, k, pair(number)) for p in PRIMES for k in POWERS for number in SOME_NUMBERS]
        again = [rest_by(p, k, pair(number)) for p in PRIMES for k in POWERS for number in SOME_NUMBERS]
        self.assertEqual(first, again)


if __name__ == "__main__":
    unittest.main()

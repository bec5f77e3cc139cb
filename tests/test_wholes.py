import math
import unittest

from helper import PRIMES, SIXTY_FIGURES, WHOLES, check_refused, is_whole, power_by_count
from primetree.errors import NoPrime
from primetree.wholes import over_by, power_of, prime_of, shared


class TestPrimeOf(unittest.TestCase):
    def test_the_four_primes_are_told(self):
        for p in PRIMES:
            self.assertEqual(prime_of(p), p)
            self.assertTrue(is_whole(prime_of(p)))

    def test_by_its_name(self):
        self.assertEqual(prime_of(number=5), 5)

    def test_all_other_numbers_are_refused(self):
        for number in range(-60, 130):
            if number not in PRIMES:
                check_refused(self, NoPrime, prime_of, number)
        for number in (SIXTY_FIGURES, -SIXTY_FIGURES, 2 ** 61 - 1, 2 ** 64 + 2, 10 ** 59 + 7):
            check_refused(self, NoPrime, prime_of, number)

    def test_truths_are_no_whole_numbers(self):
        check_refused(self, NoPrime, prime_of, True)
        check_refused(self, NoPrime, prime_of, False)


class TestShared(unittest.TestCase):
    def test_ordinary(self):
        self.assertEqual(shared(12, 18), 6)
        self.assertEqual(shared(18, 12), 6)
        self.assertEqual(shared(7, 5), 1)
        self.assertEqual(shared(5, 5), 5)
        self.assertEqual(shared(4, 8), 4)

    def test_signs_do_not_count(self):
        self.assertEqual(shared(-12, 18), 6)
        self.assertEqual(shared(12, -18), 6)
        self.assertEqual(shared(-12, -18), 6)

    def test_nought(self):
        self.assertEqual(shared(0, 0), 0)
        for n in WHOLES:
            self.assertEqual(shared(0, n), abs(n))
            self.assertEqual(shared(n, 0), abs(n))

    def test_all_small_ones(self):
        for one in range(-25, 26):
            for other in range(-25, 26):
                self.assertEqual(shared(one, other), math.gcd(one, other), (one, other))

    def test_great_ones(self):
        for one in WHOLES:
            for other in WHOLES:
                told = shared(one, other)
                self.assertEqual(told, math.gcd(one, other), (one, other))
                self.assertTrue(is_whole(told))

    def test_many_steps(self):
        one = 1
        other = 1
        while one + other < 10 ** 60:
            one, other = other, one + other
        self.assertEqual(shared(one, other), 1)
        self.assertEqual(shared(other, one), 1)

    def test_by_name(self):
        self.assertEqual(shared(one=10, other=4), 2)


class TestPowerOf(unittest.TestCase):
    def test_ordinary(self):
        self.assertEqual(power_of(2, 12), 2)
        self.assertEqual(power_of(3, 12), 1)
        self.assertEqual(power_of(5, 12), 0)
        self.assertEqual(power_of(7, 98), 2)

    def test_nought_has_none(self):
        for p in PRIMES:
            self.assertIsNone(power_of(p, 0))

    def test_one_and_its_negative_have_0(self):
        for p in PRIMES:
            for n in (1, -1):
                self.assertEqual(power_of(p, n), 0)
                self.assertTrue(is_whole(power_of(p, n)))

    def test_small_ones_of_either_sign(self):
        for p in PRIMES:
            for n in range(1, 400):
                self.assertEqual(power_of(p, n), power_by_count(p, n), (p, n))
                self.assertEqual(power_of(p, -n), power_by_count(p, n), (p, -n))

    def test_great_ones(self):
        for p in PRIMES:
            for n in WHOLES:
                if n != 0:
                    self.assertEqual(power_of(p, n), power_by_count(p, n), (p, n))

    def test_powers_times_another_one(self):
        for p in PRIMES:
            for k in range(0, 60, 7):
                self.assertEqual(power_of(p, p ** k * 11), k)
                self.assertEqual(power_of(p, p ** k * -13), k)

    def test_what_was_told_with_many_figures(self):
        for p in PRIMES:
            self.assertEqual(power_of(p, p ** 2000), 2000)
            self.assertEqual(power_of(p, -(p ** 2000) * 11), 2000)

    def test_by_name(self):
        self.assertEqual(power_of(p=2, n=8), 3)


class TestOverBy(unittest.TestCase):
    def check(self, p, n, k):
        told = over_by(p, n, k)
        self.assertTrue(is_whole(told))
        self.assertGreaterEqual(told, 0, (p, n, k))
        self.assertLess(told, p ** k, (p, n, k))
        self.assertEqual((told * n - 1) % p ** k, 0, (p, n, k))

    def test_ordinary(self):
        self.assertEqual(over_by(2, 3, 2), 3)
        self.assertEqual(over_by(2, 3, 3), 3)
        self.assertEqual(over_by(2, 3, 4), 11)
        self.assertEqual(over_by(5, 2, 1), 3)
        self.assertEqual(over_by(7, 3, 2), 33)
        self.assertEqual(over_by(3, -1, 2), 8)

    def test_k_of_0_tells_0(self):
        for p in PRIMES:
            for n in WHOLES:
                if n % p != 0:
                    self.assertEqual(over_by(p, n, 0), 0)

    def test_small_ones(self):
        for p in PRIMES:
            for k in range(0, 7):
                for n in range(-60, 61):
                    if n % p != 0:
                        self.check(p, n, k)

    def test_great_ones(self):
        for p in PRIMES:
            for k in (1, 2, 3, 8, 31, 64, 65, 127, 299, 300):
                for n in WHOLES:
                    if n % p != 0:
                        self.check(p, n, k)

    def test_every_k_to_300(self):
        for p in PRIMES:
            for k in range(301):
                self.check(p, 11, k)
                self.check(p, -13, k)

    def test_n_greater_than_the_power(self):
        self.assertEqual(over_by(2, 2 ** 80 + 3, 4), 11)
        self.assertEqual(over_by(3, 3 ** 40 + 1, 5), 1)

    def test_by_name(self):
        self.assertEqual(over_by(p=2, n=3, k=2), 3)


class TestAskedAgain(unittest.TestCase):
    def test_equal_things_are_told(self):
        first = [over_by(p, 11, k) for p in PRIMES for k in range(20)]
        again = [over_by(p, 11, k) for p in PRIMES for k in range(20)]
        self.assertEqual(first, again)
        first = [power_of(p, n) for p in PRIMES for n in WHOLES]
        again = [power_of(p, n) for p in PRIMES for n in WHOLES]
        self.assertEqual(first, again)


if __name__ == "__main__":
    unittest.main()

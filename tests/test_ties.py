import unittest
from fractions import Fraction

from helper import PRIMES, check_refused, is_spot_by_words, number_of, pair, some_spots, spot_by_number, way_by_parting
from primetree.errors import TooMany
from primetree.grids import way
from primetree.ties import tied, ties, within

FIRST = (0, (0, 1))
GREATEST_REACH = {2: 7, 3: 4, 5: 3, 7: 2}
COUNTS = {2: (1, 4, 10, 22, 46, 94, 190, 382), 3: (1, 5, 17, 53, 161), 5: (1, 7, 37, 187), 7: (1, 9, 65)}


def ties_by_words(p, spot):
    k = spot[0]
    number = number_of(spot[1])
    return ([spot_by_number(p, k - 1, number)]
            + [(k + 1, pair(number + c * Fraction(p) ** k)) for c in range(p)])


def within_by_steps(p, spot, r):
    """The spots of each way, found step by step along the ties, and each way's sorted."""
    ways = {spot: 0}
    waiting = [spot]
    for one in waiting:
        if ways[one] < r:
            for other in ties_by_words(p, one):
                if other not in ways:
                    ways[other] = ways[one] + 1
                    waiting.append(other)
    return sorted(ways, key=lambda one: (ways[one], one))


class TestTies(unittest.TestCase):
    def test_ordinary(self):
        self.assertEqual(ties(2, FIRST), [(-1, (0, 1)), (1, (0, 1)), (1, (1, 1))])
        self.assertEqual(ties(2, (2, (15, 4))), [(1, (7, 4)), (3, (15, 4)), (3, (31, 4))])
        self.assertEqual(ties(3, (1, (2, 1))), [(0, (0, 1)), (2, (2, 1)), (2, (5, 1)), (2, (8, 1))])
        self.assertEqual(ties(5, (-1, (0, 1))), [(-2, (0, 1)), (0, (0, 1)), (0, (1, 5)), (0, (2, 5)), (0, (3, 5)),
                                                 (0, (4, 5))])
        self.assertEqual(ties(7, (0, (1, 7)))[:2], [(-1, (0, 1)), (1, (1, 7))])

    def test_just_p_and_one_more(self):
        for p in PRIMES:
            for spot in some_spots(p):
                told = ties(p, spot)
                self.assertIs(type(told), list)
                self.assertEqual(len(told), p + 1)
                self.assertEqual(len(set(told)), p + 1)
                for one in told:
                    self.assertTrue(is_spot_by_words(p, one), (p, spot, one))
                    self.assertEqual(way_by_parting(p, spot, one), 1)

    def test_sorted_and_as_the_words_say(self):
        for p in PRIMES:
            for spot in some_spots(p):
                told = ties(p, spot)
                self.assertEqual(told, sorted(told))
                self.assertEqual(told, sorted(ties_by_words(p, spot)))

    def test_a_tie_holds_both_ways(self):
        for p in PRIMES:
            for spot in some_spots(p):
                for one in ties(p, spot):
                    self.assertIn(spot, ties(p, one))

    def test_what_was_told_is_handed_in_again(self):
        for p in PRIMES:
            for start, place in (((300, pair(Fraction(p ** 600 - 1, p ** 300))), p), ((-300, (0, 1)), 0)):
                spot = start
                for step in range(60):
                    spot = ties(p, spot)[place]
                    self.assertTrue(is_spot_by_words(p, spot))
                self.assertEqual(way(p, start, spot), 60)
                self.assertEqual(abs(spot[0]), 360)

    def test_the_list_is_the_askers_own(self):
        told = ties(2, FIRST)
        told.append("more")
        told[0] = None
        self.assertEqual(ties(2, FIRST), [(-1, (0, 1)), (1, (0, 1)), (1, (1, 1))])
        self.assertIsNot(ties(2, FIRST), ties(2, FIRST))

    def test_by_name(self):
        self.assertEqual(ties(spot=FIRST, p=3), ties(3, FIRST))


class TestTied(unittest.TestCase):
    def test_ordinary(self):
        self.assertIs(tied(2, FIRST, (1, (1, 1))), True)
        self.assertIs(tied(2, (1, (1, 1)), FIRST), True)
        self.assertIs(tied(2, FIRST, (2, (1, 1))), False)
        self.assertIs(tied(2, (1, (0, 1)), (1, (1, 1))), False)
        self.assertIs(tied(7, (-1, (0, 1)), (0, (6, 7))), True)
        self.assertIs(tied(7, (-1, (1, 49)), (0, (6, 7))), False)

    def test_a_spot_and_itself(self):
        for p in PRIMES:
            for spot in some_spots(p):
                self.assertIs(tied(p, spot, spot), False)

    def test_the_ties_and_none_but_them(self):
        for p in PRIMES:
            spots = some_spots(p)
            for spot in spots[::2]:
                own = ties(p, spot)
                for other in own:
                    self.assertIs(tied(p, spot, other), True)
                    self.assertIs(tied(p, other, spot), True)
                for other in spots + within(p, spot, 2):
                    self.assertIs(tied(p, spot, other), other in own, (p, spot, other))

    def test_by_name(self):
        self.assertIs(tied(other=(1, (0, 1)), one=FIRST, p=2), True)


class TestWithin(unittest.TestCase):
    def test_a_reach_of_0(self):
        for p in PRIMES:
            for spot in some_spots(p):
                self.assertEqual(within(p, spot, 0), [spot])

    def test_a_reach_of_1(self):
        for p in PRIMES:
            for spot in some_spots(p):
                self.assertEqual(within(p, spot, 1), [spot] + ties(p, spot))

    def test_a_reach_of_2(self):
        self.assertEqual(within(2, FIRST, 2), [(0, (0, 1)), (-1, (0, 1)), (1, (0, 1)), (1, (1, 1)), (-2, (0, 1)),
                                               (0, (1, 2)), (2, (0, 1)), (2, (1, 1)), (2, (2, 1)), (2, (3, 1))])

    def test_how_many_there_are(self):
        for p in PRIMES:
            for r in range(GREATEST_REACH[p] + 1):
                told = within(p, FIRST, r)
                self.assertIs(type(told), list)
                self.assertEqual(len(told), COUNTS[p][r])
                self.assertEqual(len(told), 1 + (p + 1) * (p ** r - 1) // (p - 1))
                self.assertEqual(len(set(told)), len(told))

    def test_by_their_ways_and_then_as_tuples(self):
        for p in PRIMES:
            for spot in some_spots(p)[::4]:
                for r in range(GREATEST_REACH[p] + 1):
                    self.assertEqual(within(p, spot, r), within_by_steps(p, spot, r), (p, spot, r))

    def test_the_ways_are_at_most_the_reach(self):
        for p in PRIMES:
            for spot in some_spots(p)[::9]:
                r = GREATEST_REACH[p]
                told = within(p, spot, r)
                ways = [way(p, spot, one) for one in told]
                self.assertEqual([(ways[i], told[i]) for i in range(len(told))],
                                 sorted((ways[i], told[i]) for i in range(len(told))))
                self.assertEqual(ways[-1], r)
                for other in some_spots(p):
                    self.assertIs(other in told, way(p, spot, other) <= r)

    def test_just_under_four_hundred(self):
        self.assertEqual(len(within(2, (300, (1, 1)), 7)), 382)
        self.assertEqual(len(within(3, (-300, (0, 1)), 4)), 161)
        self.assertEqual(len(within(5, (5, (1, 1)), 3)), 187)
        self.assertEqual(len(within(7, (7, (1, 1)), 2)), 65)

    def test_more_than_four_hundred_are_refused(self):
        for p in PRIMES:
            for spot in (FIRST, (300, (1, 1)), (-300, (0, 1))):
                for r in list(range(GREATEST_REACH[p] + 1, 10)) + [300]:
                    check_refused(self, TooMany, within, p, spot, r)
        # Of 3 there would be 485 within 5, of 7 there would be 457 within 3.
        check_refused(self, TooMany, within, 3, FIRST, 5)
        check_refused(self, TooMany, within, 7, FIRST, 3)

    def test_no_way_is_below_nought(self):
        for p in PRIMES:
            self.assertEqual(within(p, FIRST, -1), [])

    def test_the_list_is_the_askers_own(self):
        told = within(2, FIRST, 1)
        told.reverse()
        told.append(None)
        self.assertEqual(within(2, FIRST, 1), [FIRST] + ties(2, FIRST))
        self.assertIsNot(within(2, FIRST, 0), within(2, FIRST, 0))

    def test_by_name(self):
        self.assertEqual(within(r=1, spot=FIRST, p=2), within(2, FIRST, 1))


if __name__ == "__main__":
    unittest.main()

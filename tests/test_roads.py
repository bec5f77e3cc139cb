import unittest
from fractions import Fraction
from itertools import combinations_with_replacement, permutations

from helper import PRIMES, check_refused, is_spot_by_words, is_whole, some_spots, spot_by_number, way_by_parting
from primetree.errors import TooFar, TreeError
from primetree.grids import lies_in, way
from primetree.roads import meeting, road, sums_of_ways
from primetree.ties import ties, within

FIRST = (0, (0, 1))


def near_spots(p):
    return [spot for spot in some_spots(p) if abs(spot[0]) < 10 and spot[1][1] <= p ** 10]


def road_by_steps(p, one, other):
    """The road found by trying all ties, without coming back."""
    came = {one: None}
    waiting = [one]
    for spot in waiting:
        if spot == other:
            break
        for further in ties(p, spot):
            if further not in came:
                came[further] = spot
                waiting.append(further)
    told = [other]
    while told[-1] != one:
        told.append(came[told[-1]])
    return told[::-1]


def far_told(p, one, other):
    try:
        road(p, one, other)
    except TreeError as refusal:
        return refusal.far
    return None


class TestRoad(unittest.TestCase):
    def check(self, p, one, other):
        told = road(p, one, other)
        self.assertIs(type(told), list)
        self.assertEqual((told[0], told[-1]), (one, other))
        self.assertEqual(len(told), way(p, one, other) + 1)
        self.assertEqual(len(set(told)), len(told))
        for spot in told:
            self.assertTrue(is_spot_by_words(p, spot), (p, spot))
        for i in range(len(told) - 1):
            self.assertEqual(way_by_parting(p, told[i], told[i + 1]), 1)
        self.assertEqual(road(p, other, one), told[::-1])

    def test_ordinary(self):
        self.assertEqual(road(2, FIRST, (2, (3, 1))), [FIRST, (1, (1, 1)), (2, (3, 1))])
        self.assertEqual(road(2, (2, (3, 1)), FIRST), [(2, (3, 1)), (1, (1, 1)), FIRST])
        self.assertEqual(road(2, (-1, (0, 1)), (1, (3, 2))), [(-1, (0, 1)), (0, (1, 2)), (1, (3, 2))])
        self.assertEqual(road(3, (1, (0, 1)), (1, (2, 1))), [(1, (0, 1)), FIRST, (1, (2, 1))])
        self.assertEqual(road(5, FIRST, (0, (1, 5))), [FIRST, (-1, (0, 1)), (0, (1, 5))])
        self.assertEqual(road(7, (1, (5, 1)), (-1, (0, 1))), [(1, (5, 1)), FIRST, (-1, (0, 1))])

    def test_a_spot_and_itself(self):
        for p in PRIMES:
            for spot in some_spots(p):
                self.assertEqual(road(p, spot, spot), [spot])

    def test_tied_spots(self):
        for p in PRIMES:
            for spot in some_spots(p):
                for other in ties(p, spot):
                    self.assertEqual(road(p, spot, other), [spot, other])

    def test_all_within_a_reach(self):
        for p, r in ((2, 5), (3, 3), (5, 2), (7, 2)):
            for other in within(p, FIRST, r):
                self.assertEqual(road(p, FIRST, other), road_by_steps(p, FIRST, other))

    def test_near_spots(self):
        for p in PRIMES:
            for one in near_spots(p)[::2]:
                for other in near_spots(p):
                    self.check(p, one, other)

    def test_far_spots(self):
        for p in PRIMES:
            spots = some_spots(p)
            for one in spots[::6]:
                for other in spots[::5]:
                    far = way_by_parting(p, one, other)
                    if far <= 500:
                        self.check(p, one, other)
                    else:
                        check_refused(self, TooFar, road, p, one, other)
                        self.assertEqual(far_told(p, one, other), far)

    def test_a_way_of_five_hundred(self):
        for p in PRIMES:
            for one, other in (((250, (0, 1)), (-250, (0, 1))), ((250, (0, 1)), (250, (1, 1))),
                               (spot_by_number(p, -50, Fraction(1, p ** 300)), spot_by_number(p, -50, 0)),
                               (spot_by_number(p, 300, -1), spot_by_number(p, 200, 0))):
                self.assertEqual(way(p, one, other), 500)
                self.check(p, one, other)

    def test_a_way_of_more_is_refused(self):
        for p in PRIMES:
            longest = spot_by_number(p, 300, Fraction(1, p ** 300))
            for one, other, far in (((251, (0, 1)), (-250, (0, 1)), 501), ((-251, (0, 1)), (250, (0, 1)), 501),
                                    ((251, (0, 1)), (250, (1, 1)), 501), ((251, (1, 1)), (251, (0, 1)), 502),
                                    ((300, (0, 1)), (-300, (0, 1)), 600), (longest, (300, (0, 1)), 1200),
                                    ((201, (1, 1)), (300, (0, 1)), 501)):
                check_refused(self, TooFar, road, p, one, other)
                self.assertEqual(far_told(p, one, other), far)
                self.assertTrue(is_whole(far_told(p, one, other)))

    def test_as_long_as_the_two_numbers_tell(self):
        for p in PRIMES:
            for one in near_spots(p)[::3]:
                for other in near_spots(p):
                    low, high = lies_in(p, one, other)
                    self.assertEqual(len(road(p, one, other)), high - low + 1)

    def test_what_was_told_is_handed_in_again(self):
        for p in PRIMES:
            one = (300, (p ** 299, 1))
            for step in range(40):
                one = ties(p, one)[-1]
            self.assertEqual(one[0], 340)
            self.check(p, one, (200, (0, 1)))
            self.check(p, road(p, one, (0, (0, 1)))[5], one)

    def test_the_list_is_the_askers_own(self):
        told = road(2, FIRST, (2, (3, 1)))
        told.clear()
        self.assertEqual(road(2, FIRST, (2, (3, 1))), [FIRST, (1, (1, 1)), (2, (3, 1))])
        self.assertIsNot(road(2, FIRST, FIRST), road(2, FIRST, FIRST))

    def test_by_name(self):
        self.assertEqual(road(other=(2, (3, 1)), one=FIRST, p=2), road(2, FIRST, (2, (3, 1))))


class TestMeeting(unittest.TestCase):
    def test_ordinary(self):
        self.assertEqual(meeting(2, (1, (0, 1)), (1, (1, 1)), (-1, (0, 1))), FIRST)
        self.assertEqual(meeting(2, (2, (1, 1)), (2, (3, 1)), (2, (0, 1))), (1, (1, 1)))
        self.assertEqual(meeting(3, (1, (0, 1)), (1, (1, 1)), (1, (2, 1))), FIRST)
        self.assertEqual(meeting(5, (0, (0, 1)), (2, (7, 1)), (3, (7, 1))), (2, (7, 1)))
        self.assertEqual(meeting(7, (2, (1, 1)), (2, (8, 1)), (-3, (0, 1))), (1, (1, 1)))

    def test_the_only_spot_on_all_three_roads(self):
        for p in PRIMES:
            for one, two, three in combinations_with_replacement(near_spots(p)[::3], 3):
                shared = set(road(p, one, two)) & set(road(p, one, three)) & set(road(p, two, three))
                self.assertEqual(shared, {meeting(p, one, two, three)}, (p, one, two, three))

    def test_in_every_order(self):
        for p in PRIMES:
            spots = some_spots(p)
            for three in (spots[1:4], spots[2::9][:3], spots[-3:], [spots[0], spots[7], spots[-1]]):
                self.assertEqual(len({meeting(p, *order) for order in permutations(three)}), 1)

    def test_some_of_them_the_same(self):
        for p in PRIMES:
            spots = some_spots(p)
            for one in spots[::4]:
                self.assertEqual(meeting(p, one, one, one), one)
                for other in spots[::3]:
                    self.assertEqual(meeting(p, one, one, other), one)
                    self.assertEqual(meeting(p, one, other, one), one)
                    self.assertEqual(meeting(p, other, one, one), one)

    def test_far_spots_are_not_refused(self):
        for p in PRIMES:
            spots = some_spots(p)[::7] + [spot_by_number(p, 300, Fraction(1, p ** 300)), (300, (0, 1))]
            for one, two, three in combinations_with_replacement(spots, 3):
                told = meeting(p, one, two, three)
                self.assertTrue(is_spot_by_words(p, told))
                for a, b in ((one, two), (one, three), (two, three)):
                    self.assertEqual(way_by_parting(p, a, told) + way_by_parting(p, told, b),
                                     way_by_parting(p, a, b))

    def test_by_name(self):
        self.assertEqual(meeting(three=(-1, (0, 1)), two=(1, (1, 1)), one=(1, (0, 1)), p=2), FIRST)


class TestSumsOfWays(unittest.TestCase):
    def test_ordinary(self):
        four = [FIRST, (1, (1, 1)), (-2, (0, 1)), (2, (1, 1))]
        self.assertEqual(sums_of_ways(2, four), [5, 3, 5])
        self.assertEqual(sums_of_ways(3, [(1, (0, 1)), (1, (1, 1)), (0, (1, 3)), (-2, (0, 1))]), [4, 6, 6])
        self.assertEqual(sums_of_ways(7, [(0, (0, 1)), (0, (1, 7)), (3, (0, 1)), (4, (1, 7))]), [11, 7, 11])

    def test_in_this_order(self):
        for p in PRIMES:
            for four in combinations_with_replacement(some_spots(p)[::8], 4):
                a, b, c, d = four
                told = sums_of_ways(p, list(four))
                self.assertIs(type(told), list)
                self.assertTrue(all(is_whole(number) for number in told))
                self.assertEqual(told, [way_by_parting(p, a, b) + way_by_parting(p, c, d),
                                        way_by_parting(p, a, c) + way_by_parting(p, b, d),
                                        way_by_parting(p, a, d) + way_by_parting(p, b, c)])

    def test_the_two_greater_ones_are_alike(self):
        for p in PRIMES:
            for four in combinations_with_replacement(some_spots(p)[1::8], 4):
                rising = sorted(sums_of_ways(p, list(four)))
                self.assertEqual(rising[1], rising[2], (p, four))

    def test_some_of_them_the_same(self):
        for p in PRIMES:
            one = (2, (1, 1))
            other = (-1, (1, p * p))
            self.assertEqual(way(p, one, other), 5)
            self.assertEqual(sums_of_ways(p, [one, one, one, one]), [0, 0, 0])
            self.assertEqual(sums_of_ways(p, [one, one, one, other]), [5, 5, 5])
            self.assertEqual(sums_of_ways(p, [one, one, other, other]), [0, 10, 10])
            self.assertEqual(sums_of_ways(p, [one, other, one, other]), [10, 0, 10])
            self.assertEqual(sums_of_ways(p, [one, other, other, one]), [10, 10, 0])

    def test_what_is_handed_in_is_not_changed(self):
        four = [FIRST, (1, (1, 1)), (-2, (0, 1)), (2, (1, 1))]
        told = sums_of_ways(2, four)
        self.assertEqual(four, [FIRST, (1, (1, 1)), (-2, (0, 1)), (2, (1, 1))])
        four.reverse()
        four.append(None)
        self.assertEqual(told, [5, 3, 5])

    def test_the_list_is_the_askers_own(self):
        four = [FIRST, (1, (1, 1)), (-2, (0, 1)), (2, (1, 1))]
        told = sums_of_ways(2, four)
        told.pop()
        self.assertEqual(sums_of_ways(2, four), [5, 3, 5])

    def test_by_name(self):
        self.assertEqual(sums_of_ways(four=[FIRST, FIRST, FIRST, (1, (0, 1))], p=2), [1, 1, 1])


if __name__ == "__main__":
    unittest.main()

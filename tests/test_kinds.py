import unittest
from fractions import Fraction

from helper import (PRIMES, SIXTY_FIGURES, check_refused, great_tables, is_spot_by_words, is_whole, numbers_of, pair,
                    power_of_number, some_spots, some_tables, spot_by_number, table_from, tables_for, way_by_parting)
from primetree.ends import road_to
from primetree.errors import TooFar, TooMany
from primetree.fractions import prime_power
from primetree.grids import table_at, way
from primetree.kinds import holds, kept_within, kind
from primetree.moves import moved
from primetree.roads import road
from primetree.tables import one_table, product, stretched, turned_over
from primetree.ties import ties, within

FIRST = (0, (0, 1))
REACHES = ((2, 7), (3, 4), (5, 3), (7, 2))

# Tables whose measure has the power 0 and which move each tie of the first spot: so they keep this spot alone.
KEEP_ONE = ((2, table_from(0, 1, 1, 1)), (3, table_from(0, -1, 1, 0)), (5, table_from(0, 2, 1, 0)),
            (7, table_from(0, -1, 1, 0)))


def powers_of(p, table):
    """The powers of the measure and, where it is not nought, of the trace."""
    a, b, c, d = numbers_of(table)
    return (power_of_number(p, a * d - b * c), None if a + d == 0 else power_of_number(p, a + d))


def kind_by_words(p, table):
    """The word, and the steps of a slide."""
    d, t = powers_of(p, table)
    if t is not None and 2 * t < d:
        return ("slides", d - 2 * t)
    return ("keeps" if d % 2 == 0 else "turns", None)


def seen_from(p, table, spot):
    """A table that does at the spot what this one does at the first spot."""
    there = table_at(p, spot)
    return product(product(there, table), turned_over(there))


def tables_by_powers(p):
    """Tables with each small power of the measure and of the trace, the trace nought too, told from several spots."""
    found = []
    for d in range(-3, 5):
        for trace in [Fraction(0)] + [Fraction(p) ** t * (1 - 2 * p) for t in range(-3, 5)]:
            for unit in (1, -1, Fraction(p + 1, p - 1 if p > 2 else 3)):
                found.append(table_from(0, -unit * Fraction(p) ** d, 1, trace))
    spots = (FIRST, (2, (1, 1)), (-3, (0, 1)), (1, (1, p * p)))
    return found + [seen_from(p, table, spots[i % 4]) for i, table in enumerate(found[::3])]


def sliding(p, steps):
    """Tables that slide by so many steps, towards far or away from it, along one line or another."""
    up = stretched(one_table(), prime_power(p, steps))
    towards = (one_table()[0], (0, 1), (0, 1), up[0])
    away = (up[0], (0, 1), (0, 1), one_table()[0])
    return [towards, away, turned_over(away), turned_over(towards), seen_from(p, away, (3, (1, 1))),
            product(product(table_from(1, 2, 3, 4), away), turned_over(table_from(1, 2, 3, 4))),
            stretched(towards, (-7, 11))]


class Look(unittest.TestCase):
    """How what is told of a table is looked at."""

    def check(self, p, table):
        told = kind(p, table)
        self.assertIs(type(told), tuple)
        word, steps = kind_by_words(p, table)
        self.assertEqual(told[0], word, (p, table))
        if word == "keeps":
            self.check_keeps(p, table, *told[1:])
        elif word == "turns":
            self.check_turns(p, table, *told[1:])
        else:
            self.assertEqual(told[1], steps)
            self.check_slides(p, table, *told[1:])
        return told

    def check_keeps(self, p, table, spot):
        self.assertTrue(is_spot_by_words(p, spot), (p, table))
        self.assertEqual(moved(p, table, spot), spot, (p, table))

    def check_turns(self, p, table, one, other):
        for spot in (one, other):
            self.assertTrue(is_spot_by_words(p, spot), (p, table))
        self.assertLess(one, other)
        self.assertEqual(way_by_parting(p, one, other), 1)
        self.assertEqual((moved(p, table, one), moved(p, table, other)), (other, one), (p, table))

    def check_slides(self, p, table, steps, stretch):
        self.assertTrue(is_whole(steps))
        self.assertIs(type(stretch), list)
        self.assertEqual(len(stretch), steps + 1)
        self.assertEqual(len(set(stretch)), steps + 1)
        for spot in stretch:
            self.assertTrue(is_spot_by_words(p, spot), (p, table))
        for i in range(steps):
            self.assertEqual(way_by_parting(p, stretch[i], stretch[i + 1]), 1)
        self.assertEqual(moved(p, table, stretch[0]), stretch[-1], (p, table))
        further = moved(p, table, stretch[1])
        self.assertNotIn(further, stretch)
        self.assertEqual(way_by_parting(p, stretch[-1], further), 1)
        self.assertEqual(way_by_parting(p, stretch[0], further), steps + 1)


class TestKind(Look):
    def test_ordinary(self):
        for p in PRIMES:
            self.assertEqual(kind(p, table_from(0, 1, p, 0)), ("turns", (-1, (0, 1)), FIRST))
            self.assertEqual(kind(p, table_from(0, p, 1, 0)), ("turns", FIRST, (1, (0, 1))))
            self.assertEqual(kind(p, table_from(0, -1, p, 0)), ("turns", (-1, (0, 1)), FIRST))
            self.assertEqual(kind(p, table_from(0, p ** 3, 1, 0)), ("turns", (1, (0, 1)), (2, (0, 1))))
            self.assertEqual(self.check(p, table_from(p, 0, 0, 1))[:2], ("slides", 1))
            self.assertEqual(self.check(p, table_from(1, 0, 0, p * p))[:2], ("slides", 2))
            self.assertEqual(self.check(p, table_from(1, 1, 0, p ** 3))[:2], ("slides", 3))
            self.assertEqual(self.check(p, table_from(Fraction(1, p), 0, 5, p))[:2], ("slides", 2))
            for numbers in ((1, 0, 0, 1), (1, 1, 0, 1), (0, 1, 1, 0), (1, 0, 1, 1), (-1, 0, 0, 1), (p, 0, 0, p)):
                self.assertEqual(self.check(p, table_from(*numbers))[0], "keeps")

    def test_the_only_one_that_is_kept(self):
        for p, table in KEEP_ONE:
            self.assertEqual(kind(p, table), ("keeps", FIRST))
            for spot in some_spots(p):
                self.assertEqual(kind(p, seen_from(p, table, spot)), ("keeps", spot))

    def test_the_only_tie_that_is_turned(self):
        for p in PRIMES:
            for one in some_spots(p)[::3]:
                told = kind(p, seen_from(p, table_from(0, 1, p, 0), one))
                up = spot_by_number(p, one[0] - 1, Fraction(*one[1]))
                self.assertEqual(told, ("turns", up, one))

    def test_of_all(self):
        for p in PRIMES:
            words = [self.check(p, table)[0] for table in tables_for(p)[::2]]
            self.assertEqual(set(words), {"keeps", "turns", "slides"})

    def test_of_each_power_of_the_measure_and_the_trace(self):
        for p in PRIMES:
            for table in tables_by_powers(p):
                self.check(p, table)

    def test_the_trace_nought(self):
        for p in PRIMES:
            for n in (-300, -4, -3, -1, 0, 1, 2, 7, 300):
                word = "keeps" if n % 2 == 0 else "turns"
                for numbers in ((0, Fraction(p) ** n, 1, 0), (0, -1, Fraction(p) ** n, 0)):
                    self.assertEqual(self.check(p, table_from(*numbers))[0], word)
            self.assertEqual(self.check(p, table_from(1, 1, p - 1, -1))[0], "turns")
            self.assertEqual(self.check(p, table_from(1, 0, 0, -1))[0], "keeps")
            self.assertEqual(self.check(p, table_from(p, 1, 0, -p))[0], "keeps")
            self.assertEqual(self.check(p, table_from(1, 1, p * p - 1, -1))[0], "keeps")

    def test_where_twice_the_power_of_the_trace_is_the_measures_or_one_off(self):
        for p in PRIMES:
            for t in (-3, 0, 2):
                trace = Fraction(p) ** t
                words = [self.check(p, table_from(0, -Fraction(p) ** (2 * t + off), 1, trace))[:2]
                         for off in (-2, -1, 0, 1, 2)]
                self.assertEqual([told[0] for told in words], ["keeps", "turns", "keeps", "slides", "slides"])
                self.assertEqual([told[1] for told in words[3:]], [1, 2])

    def test_times_a_fraction(self):
        for p in PRIMES:
            for table in some_tables(p) + tables_by_powers(p)[::7]:
                word, steps = kind_by_words(p, table)
                for factor in (Fraction(p), Fraction(-5, p ** 3), Fraction(11, 13)):
                    times = stretched(table, pair(factor))
                    self.assertEqual(kind_by_words(p, times), (word, steps))
                    self.check(p, times)

    def test_turned_over(self):
        for p in PRIMES:
            for table in tables_by_powers(p)[::3]:
                self.assertEqual(self.check(p, turned_over(table))[0], kind_by_words(p, table)[0])

    def test_seen_from_elsewhere(self):
        for p in PRIMES:
            for table in tables_by_powers(p)[::9]:
                for spot in some_spots(p)[::12]:
                    seen = seen_from(p, table, spot)
                    self.assertEqual(kind_by_words(p, seen), kind_by_words(p, table))
                    self.check(p, seen)

    def test_just_one_of_the_three_holds(self):
        for p, r in REACHES:
            for table in tables_by_powers(p)[::5]:
                word = kind(p, table)[0]
                far = [way(p, spot, moved(p, table, spot)) for spot in within(p, FIRST, r)]
                if word != "keeps":
                    self.assertNotIn(0, far)
                turned = [spot for spot in within(p, FIRST, r) if way(p, spot, moved(p, table, spot)) == 1 and
                          moved(p, table, moved(p, table, spot)) == spot]
                if word != "turns":
                    self.assertEqual(turned, [])
                else:
                    self.assertLessEqual(set(turned), set(kind(p, table)[1:]))

    def test_of_sixty_figures(self):
        for p in PRIMES:
            for table in great_tables(p):
                self.check(p, table)
            for numbers in ((SIXTY_FIGURES, 0, 0, Fraction(1, p ** 60)), (1, SIXTY_FIGURES, 0, p ** 60),
                            (0, SIXTY_FIGURES, Fraction(-1, SIXTY_FIGURES), 0), (0, SIXTY_FIGURES, p ** 61, 0)):
                self.check(p, table_from(*numbers))

    def test_what_was_told_is_handed_in_again(self):
        for p in PRIMES:
            for table in (table_from(SIXTY_FIGURES, 1, 2, 10 ** 59 + 3), table_from(1 + p ** 60, p ** 61, p ** 62, 1),
                          table_from(0, p, SIXTY_FIGURES, 0), table_from(p, Fraction(1, p ** 9), SIXTY_FIGURES, 1)):
                great = table
                for step in range(4):
                    great = product(great, great)
                self.check(p, great)
                self.check(p, product(great, table))
                told = self.check(p, seen_from(p, table, moved(p, great, (300, (p ** 299, 1)))))
                self.assertIs(holds(p, seen_from(p, table, moved(p, great, (300, (p ** 299, 1)))), told), True)

    def test_by_name(self):
        self.assertEqual(kind(table=table_from(0, 1, 2, 0), p=2), ("turns", (-1, (0, 1)), FIRST))


class TestLongSlides(Look):
    def test_of_five_hundred_steps(self):
        for p in PRIMES:
            for table in sliding(p, 500):
                told = self.check(p, table)
                self.assertEqual(told[:2], ("slides", 500))
                self.assertIs(holds(p, table, told), True)

    def test_of_one_more(self):
        for p in PRIMES:
            for table in sliding(p, 501):
                check_refused(self, TooFar, kind, p, table)
                with self.assertRaises(TooFar) as caught:
                    kind(p, table)
                self.assertEqual(caught.exception.far, 501)
                self.assertTrue(is_whole(caught.exception.far))

    def test_of_many_more(self):
        for p in PRIMES:
            for steps in (502, 700, 1000):
                for table in sliding(p, steps):
                    with self.assertRaises(TooFar) as caught:
                        kind(p, table)
                    self.assertEqual(caught.exception.far, steps)

    def test_of_sixty_figures(self):
        # The measure is 2 ** n, the trace has the power -199.
        for n, steps in ((102, 500), (103, 501), (150, 548), (101, 499)):
            for table in (table_from(Fraction(1, 2 ** 199), 1, 1 - 2 ** n, 2 ** 199),
                          table_from(2 ** 199, 1, 1 - 2 ** n, Fraction(1, 2 ** 199))):
                if steps <= 500:
                    self.assertEqual(self.check(2, table)[:2], ("slides", steps))
                else:
                    with self.assertRaises(TooFar) as caught:
                        kind(2, table)
                    self.assertEqual(caught.exception.far, steps)

    def test_a_far_spot_that_is_kept_is_not_too_far(self):
        for p, table in KEEP_ONE:
            for spot in ((300, (p ** 299, 1)), (-300, (0, 1)), spot_by_number(p, 300, Fraction(-1, p ** 300))):
                seen = seen_from(p, table, spot)
                self.assertGreaterEqual(way(p, FIRST, moved(p, seen, FIRST)), 600)
                self.assertEqual(kind(p, seen), ("keeps", spot))

    def test_a_far_line_is_not_too_far(self):
        for p in PRIMES:
            spot = spot_by_number(p, 300, Fraction(-1, p ** 300))
            self.assertEqual(self.check(p, seen_from(p, table_from(0, 1, -p, 1), spot))[:2], ("slides", 1))


class TestHowFarSpotsAreMoved(unittest.TestCase):
    def spots(self, p):
        return within(p, FIRST, 2) + some_spots(p)[::9]

    def far_moved(self, p, table, spot):
        return way_by_parting(p, spot, moved(p, table, spot))

    def test_the_only_one_that_is_kept(self):
        for p, table in KEEP_ONE:
            for middle in (FIRST, (3, (1, 1)), (-2, (1, p ** 4))):
                for spot in self.spots(p):
                    self.assertEqual(self.far_moved(p, seen_from(p, table, middle), spot),
                                     2 * way_by_parting(p, spot, middle))

    def test_the_nearest_of_many_kept_ones(self):
        for p, r in REACHES:
            for table in (table_from(1, p ** 2, 0, 1), table_from(1, 0, p, 1), table_from(1, 0, 0, 1 + p),
                          table_from(0, 1, 1, 0), table_from(1, 0, 0, -1)):
                kept = kept_within(p, table, FIRST, r)
                for spot in within(p, FIRST, r // 2):
                    n = min(way_by_parting(p, spot, one) for one in kept)
                    self.assertEqual(self.far_moved(p, table, spot), 2 * n)

    def test_a_turned_tie(self):
        for p in PRIMES:
            for table in [table for table in tables_by_powers(p)[::2] if kind_by_words(p, table)[0] == "turns"]:
                one, other = kind(p, table)[1:]
                for spot in self.spots(p)[::3]:
                    n = min(way_by_parting(p, spot, one), way_by_parting(p, spot, other))
                    self.assertEqual(self.far_moved(p, table, spot), 2 * n + 1)

    def test_a_slide(self):
        for p in PRIMES:
            for table in [table for table in tables_by_powers(p)[::2] if kind_by_words(p, table)[0] == "slides"]:
                steps, stretch = kind(p, table)[1:]
                # As long a part of the line as comes near to the spots.
                line = stretch
                while len(line) < 40:
                    line = [moved(p, turned_over(table), spot) for spot in stretch[:-1]] + line
                    stretch = [moved(p, turned_over(table), spot) for spot in stretch]
                ahead = line[-steps - 1:]
                while len(line) < 80:
                    ahead = [moved(p, table, spot) for spot in ahead]
                    line = line + ahead[1:]
                for spot in within(p, FIRST, 2)[::2]:
                    n = min(way_by_parting(p, spot, one) for one in line)
                    self.assertEqual(self.far_moved(p, table, spot), 2 * n + steps)


class TestKeptWithin(unittest.TestCase):
    def by_words(self, p, table, spot, r):
        return [one for one in within(p, spot, r) if moved(p, table, one) == one]

    def test_one_and_many(self):
        for p, table in KEEP_ONE:
            r = dict(REACHES)[p]
            self.assertEqual(kept_within(p, table, FIRST, r), [FIRST])
            self.assertEqual(kept_within(p, table, (1, (0, 1)), r), [FIRST])
            self.assertEqual(kept_within(p, table, (1, (0, 1)), 0), [])
            self.assertEqual(kept_within(p, table, (1, (0, 1)), 1), [FIRST])
            self.assertEqual(kept_within(p, one_table(), FIRST, r), within(p, FIRST, r))
            self.assertEqual(kept_within(p, table_from(1, p ** 9, 0, 1), FIRST, r), within(p, FIRST, r))

    def test_ordinary(self):
        self.assertEqual(kept_within(2, table_from(1, 1, 0, 1), FIRST, 1), [FIRST, (-1, (0, 1))])
        self.assertEqual(kept_within(2, table_from(0, 1, 1, 0), FIRST, 2),
                         [FIRST, (1, (1, 1)), (2, (1, 1)), (2, (3, 1))])
        self.assertEqual(kept_within(3, table_from(-1, 0, 0, 1), FIRST, 2),
                         [FIRST, (-1, (0, 1)), (1, (0, 1)), (-2, (0, 1)), (2, (0, 1))])
        self.assertEqual(kept_within(5, table_from(0, 1, 1, 0), FIRST, 1), [FIRST, (1, (1, 1)), (1, (4, 1))])
        self.assertEqual(kept_within(7, table_from(1, 1, 0, 1), (1, (3, 1)), 2), [FIRST, (-1, (0, 1))])

    def test_of_tables_that_turn_or_slide_there_are_none(self):
        for p, r in REACHES:
            for numbers in ((0, 1, p, 0), (p, 0, 0, 1), (1, 1, 0, p), (0, p ** 3, 1, 0)):
                self.assertEqual(kept_within(p, table_from(*numbers), FIRST, r), [])

    def test_of_all(self):
        for p, r in REACHES:
            for table in tables_for(p)[::40] + tables_by_powers(p)[::17] + great_tables(p):
                for spot in (FIRST, (2, (1, 1)), (-1, (1, p ** 3))):
                    told = kept_within(p, table, spot, r)
                    self.assertIs(type(told), list)
                    self.assertEqual(told, self.by_words(p, table, spot, r), (p, table, spot))

    def test_of_each_reach(self):
        for p, most in REACHES:
            for r in range(most + 1):
                for table in (table_from(1, p, 0, 1), table_from(1, 0, p * p, 1), table_from(0, 1, 1, 0),
                              table_from(1, Fraction(1, p), 0, 1 + p), table_from(p, p * p, 0, p)):
                    for spot in (FIRST, (-1, (0, 1)), (3, (1, 1))):
                        self.assertEqual(kept_within(p, table, spot, r), self.by_words(p, table, spot, r))

    def test_about_the_edge_of_what_is_kept(self):
        for p, r in REACHES:
            for depth in range(r + 2):
                for numbers in ((1, p ** depth, 0, 1), (1, 0, p ** depth, 1), (1 + p ** (depth + 1), 0, 0, 1),
                                (1, p ** depth, p ** depth, 1 + p ** (2 * depth + 1))):
                    table = table_from(*numbers)
                    for spot in ((depth, (0, 1)), (depth + 1, (0, 1)), (-depth, (0, 1)), (depth + r, (0, 1))):
                        self.assertEqual(kept_within(p, table, spot, r), self.by_words(p, table, spot, r))

    def test_about_far_spots(self):
        for p, r in REACHES:
            for spot in some_spots(p)[-20::6]:
                for numbers in ((1, p ** 2, 0, 1), (1, 0, p, 1), (0, 1, 1, 0), (0, 1, p, 0)):
                    seen = seen_from(p, table_from(*numbers), spot)
                    told = kept_within(p, seen, spot, min(r, 3))
                    self.assertEqual(told, self.by_words(p, seen, spot, min(r, 3)))
                    self.assertEqual(spot in told, numbers[2] != p or numbers[0] == 1)

    def test_great_tables_that_were_told(self):
        for p in PRIMES:
            great = table_from(1 + p ** 60, p ** 61, SIXTY_FIGURES * p * p, 1)
            for step in range(4):
                great = product(great, great)
            for spot, r in ((FIRST, 2), ((300, (p ** 299, 1)), 1)):
                told = kept_within(p, great, spot, r)
                self.assertEqual(told, self.by_words(p, great, spot, r))

    def test_too_many(self):
        for p, r in REACHES:
            self.assertTrue(kept_within(p, one_table(), FIRST, r))
            for table in (one_table(), table_from(p, 0, 0, 1), table_from(0, 1, p, 0), table_from(1, 1, 0, 1)):
                for reach in range(r + 1, 9):
                    check_refused(self, TooMany, kept_within, p, table, FIRST, reach)
                check_refused(self, TooMany, kept_within, p, table, (300, (p ** 299, 1)), r + 1)

    def test_the_list_is_the_askers_own(self):
        told = kept_within(3, one_table(), FIRST, 2)
        told.clear()
        self.assertEqual(kept_within(3, one_table(), FIRST, 2), within(3, FIRST, 2))
        self.assertIsNot(kept_within(3, one_table(), FIRST, 0), kept_within(3, one_table(), FIRST, 0))

    def test_by_name(self):
        self.assertEqual(kept_within(r=1, spot=FIRST, table=table_from(1, 1, 0, 1), p=2), [FIRST, (-1, (0, 1))])


class TestHolds(unittest.TestCase):
    def test_what_is_told_holds(self):
        for p in PRIMES:
            for table in tables_for(p)[::7] + tables_by_powers(p)[::2] + great_tables(p):
                self.assertIs(holds(p, table, kind(p, table)), True)

    def test_keeps(self):
        for p in PRIMES:
            for table in some_tables(p) + [table_from(1, p, 0, 1), table_from(0, 1, 1, 0), one_table()]:
                for spot in within(p, FIRST, 2) + some_spots(p)[::9]:
                    self.assertIs(holds(p, table, ("keeps", spot)), moved(p, table, spot) == spot)
        for p, table in KEEP_ONE:
            self.assertIs(holds(p, table, ("keeps", FIRST)), True)
            for tie in ties(p, FIRST):
                self.assertIs(holds(p, table, ("keeps", tie)), False)
        for p in PRIMES:
            self.assertIs(holds(p, table_from(1, 1, 0, 1), ("keeps", (-5, (0, 1)))), True)
            self.assertIs(holds(p, table_from(p, 0, 0, 1), ("keeps", FIRST)), False)
            self.assertIs(holds(p, table_from(0, 1, p, 0), ("keeps", FIRST)), False)

    def test_turns(self):
        for p in PRIMES:
            table = table_from(0, 1, p, 0)
            self.assertIs(holds(p, table, ("turns", (-1, (0, 1)), FIRST)), True)
            self.assertIs(holds(p, table, ("turns", FIRST, (-1, (0, 1)))), False)
            self.assertIs(holds(p, table, ("turns", FIRST, (1, (0, 1)))), False)
            self.assertIs(holds(p, table, ("turns", FIRST, FIRST)), False)
            # Moved to one another, but not tied.
            self.assertIs(holds(p, table, ("turns", (-2, (0, 1)), (1, (0, 1)))), False)
            self.assertIs(holds(p, table_from(0, 1, 1, 0), ("turns", (-2, (0, 1)), (2, (0, 1)))), False)
            self.assertIs(holds(p, table_from(0, 1, 1, 0), ("turns", (-1, (0, 1)), (1, (0, 1)))), False)
            # The one is moved to the other, but this further on or nowhere.
            self.assertIs(holds(p, table_from(p, 0, 0, 1), ("turns", FIRST, (1, (0, 1)))), False)
            self.assertIs(holds(p, table_from(1, 0, 0, p), ("turns", (-1, (0, 1)), FIRST)), False)
            self.assertIs(holds(p, one_table(), ("turns", FIRST, FIRST)), False)
            self.assertIs(holds(p, one_table(), ("turns", FIRST, (1, (0, 1)))), False)

    def test_of_all_pairs_just_the_tie_is_turned(self):
        for p in PRIMES:
            for table in [table for table in tables_by_powers(p) if kind_by_words(p, table)[0] == "turns"][::4]:
                told = kind(p, table)
                spots = within(p, told[1], 2)
                for one in spots:
                    for other in spots:
                        self.assertIs(holds(p, table, ("turns", one, other)), told == ("turns", one, other))

    def test_each_stretch_of_the_line(self):
        for p in PRIMES:
            for table in [table for table in tables_by_powers(p) if kind_by_words(p, table)[0] == "slides"][::4]:
                steps, stretch = kind(p, table)[1:]
                line = stretch[:-1] + [moved(p, table, spot) for spot in stretch]
                for i in range(steps):
                    self.assertIs(holds(p, table, ("slides", steps, line[i:i + steps + 1])), True)
                    # Turned round it is a stretch of the table turned over.
                    turned = line[i:i + steps + 1][::-1]
                    self.assertIs(holds(p, table, ("slides", steps, turned)), False)
                    self.assertIs(holds(p, turned_over(table), ("slides", steps, turned)), True)

    def test_no_stretch(self):
        for p in PRIMES:
            for table in [table for table in tables_by_powers(p) if kind_by_words(p, table)[0] == "slides"][::4]:
                steps, stretch = kind(p, table)[1:]
                further = [moved(p, table, spot) for spot in stretch]
                off = [tie for tie in ties(p, stretch[0]) if tie != stretch[1] and moved(p, table, tie) != further[1]]
                aside = [tie for tie in off if way(p, tie, moved(p, table, tie)) > steps][0]
                middle = stretch[steps // 2]
                wrong = [stretch[:-1], stretch[1:], stretch + [further[1]], stretch + [stretch[-1]], stretch[:1],
                         stretch[:1] * (steps + 1), [stretch[0]] + stretch[1:-1] + [aside], [aside] + stretch[1:],
                         [aside] + stretch, road(p, aside, moved(p, table, aside)), stretch + further[1:], [],
                         stretch[:1] + [aside] + stretch, stretch[:-1] + [middle]]
                for some in wrong:
                    for count in (-1, 0, 1, steps - 1, steps, steps + 1, len(some) - 1, 300):
                        self.assertIs(holds(p, table, ("slides", count, some)), False, (p, table, count, some))
                for count in (-steps, -1, 0, steps - 1, steps + 1, 2 * steps + 7):
                    self.assertIs(holds(p, table, ("slides", count, stretch)), False)

    def test_a_road_that_comes_back(self):
        for p in PRIMES:
            table = table_from(p ** 3, 0, 0, 1)
            stretch = [(k, (0, 1)) for k in (0, 1, 2, 3)]
            self.assertIs(holds(p, table, ("slides", 3, stretch)), True)
            self.assertIs(holds(p, table, ("slides", 5, stretch[:2] + stretch)), False)
            self.assertIs(holds(p, table, ("slides", 3, [stretch[0], stretch[2], stretch[1], stretch[3]])), False)
            self.assertIs(holds(p, table, ("slides", 3, [stretch[0], (1, (1, 1)), stretch[2], stretch[3]])), False)

    def test_the_second_spot_is_moved_back(self):
        for p in PRIMES:
            # These move the first of the list to the last, but the second one back onto it.
            self.assertIs(holds(p, table_from(0, 1, 1, 0), ("slides", 2, [(-1, (0, 1)), FIRST, (1, (0, 1))])), False)
            self.assertIs(holds(p, table_from(0, 1, p, 0), ("slides", 1, [(-1, (0, 1)), FIRST])), False)
            self.assertIs(holds(p, table_from(0, p, 1, 0), ("slides", 3, [(k, (0, 1)) for k in (-1, 0, 1, 2)])), False)
            self.assertIs(holds(p, one_table(), ("slides", 0, [FIRST])), False)
            self.assertIs(holds(p, one_table(), ("slides", -1, [])), False)
            self.assertIs(holds(p, table_from(0, 1, p, 0), ("slides", 0, [FIRST])), False)

    def test_another_kind_than_the_tables(self):
        for p in PRIMES:
            told = [kind(p, table_from(*numbers)) for numbers in ((1, 1, 0, 1), (0, 1, p, 0), (p, 0, 0, 1),
                                                                  (1, 0, 0, p * p), (0, p, 1, 0))]
            for table in tables_by_powers(p)[::3]:
                for some in told:
                    if some[0] != kind_by_words(p, table)[0]:
                        self.assertIs(holds(p, table, some), False)

    def test_another_tables_slide(self):
        for p in PRIMES:
            told = kind(p, table_from(p, 0, 0, 1))
            for numbers in ((1, 0, 0, p), (p, 1, 0, 1), (p * p, 0, 0, 1), (1, 0, 0, 1), (-p, Fraction(1, p), 0, 1)):
                self.assertIs(holds(p, table_from(*numbers), told), False)
            for numbers in ((p, 0, 0, 1), (-p, 0, 0, 1), (p * p, 0, 0, p), (1, 0, 0, Fraction(1, p))):
                self.assertIs(holds(p, table_from(*numbers), told), True)

    def test_nothing_is_refused(self):
        for p in PRIMES:
            for table in sliding(p, 501):
                for some in (("keeps", FIRST), ("turns", FIRST, (1, (0, 1))), ("slides", 501, []),
                             ("slides", 501, [FIRST]), ("slides", 500, [FIRST, (1, (0, 1))]), ("slides", 0, []),
                             ("slides", 500, road_to(p, FIRST, "far", 500))):
                    self.assertIs(holds(p, table, some), False)
            # Refused when asked for, but no less a stretch.
            stretch = [(k, (0, 1)) for k in range(502)]
            self.assertIs(holds(p, sliding(p, 501)[1], ("slides", 501, stretch)), True)
            self.assertIs(holds(p, sliding(p, 501)[0], ("slides", 501, stretch)), False)

    def test_spots_that_lie_far_apart(self):
        for p in PRIMES:
            far = [(300, (p ** 299, 1)), spot_by_number(p, 300, Fraction(-1, p ** 300)), (-300, (0, 1))]
            for table in (table_from(p, 0, 0, 1), table_from(0, 1, p, 0), one_table()):
                for one in far:
                    for other in far:
                        self.assertIs(holds(p, table, ("turns", one, other)), False)
                        self.assertIs(holds(p, table, ("slides", 1, [one, other])), False)
                        self.assertIs(holds(p, table, ("slides", 600, [one, other])), False)

    def test_what_is_handed_in_stays(self):
        stretch = [FIRST, (1, (0, 1))]
        for count in (1, 2):
            holds(2, table_from(2, 0, 0, 1), ("slides", count, stretch))
            self.assertEqual(stretch, [FIRST, (1, (0, 1))])

    def test_by_name(self):
        self.assertIs(holds(told=("keeps", FIRST), table=one_table(), p=2), True)


class TestAskedAgain(unittest.TestCase):
    def test_equal_things_are_told(self):
        for p in PRIMES:
            for table in some_tables(p) + tables_by_powers(p)[::5]:
                same = table_from(*numbers_of(table))
                self.assertEqual(kind(p, table), kind(p, same))
                self.assertEqual(kept_within(p, table, FIRST, 2), kept_within(p, same, (0, (0, 1)), 2))
                self.assertEqual(holds(p, table, ("keeps", FIRST)), holds(p, same, ("keeps", (0, (0, 1)))))

    def test_the_stretch_is_the_askers_own(self):
        for p in PRIMES:
            told = kind(p, table_from(p, 0, 0, 1))
            told[2].clear()
            again = kind(p, table_from(p, 0, 0, 1))
            self.assertEqual(len(again[2]), 2)
            self.assertIsNot(again[2], kind(p, table_from(p, 0, 0, 1))[2])


if __name__ == "__main__":
    unittest.main()

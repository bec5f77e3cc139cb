"""What is promised over the whole program: the interface, what is told and kept, and how the parts hang together."""

import importlib
import inspect
import unittest
from fractions import Fraction

from helper import (NAMES_OF_REFUSALS, PRIMES, REFUSALS, great_tables, is_fraction, is_spot_by_words, is_table,
                    is_whole, numbers_of, pair, power_of_number, product_by_numbers, some_spots, some_tables,
                    spot_by_number, table_from, tables_for)
from primetree import errors
from primetree.apart import is_firm, taken_apart
from primetree.deeds import Deed, Flip, Scale, Shift, all_done, deeds_of
from primetree.desk import Desk
from primetree.ends import led, next_to, road_to
from primetree.figures import by_figures, figures
from primetree.fractions import alike, less, prime_power, rest_by
from primetree.grids import is_spot, lies_in, spot_of, table_at, two_numbers, way
from primetree.kinds import holds, kept_within, kind
from primetree.lines import nearest, on_line
from primetree.moves import moved, mover, some_moved
from primetree.roads import meeting, road, sums_of_ways
from primetree.tables import one_table, product, stretched, turned_over
from primetree.ties import tied, ties, within

FIRST = (0, (0, 1))

INTERFACE = {
    "wholes": {"prime_of": "number", "shared": "one other", "power_of": "p n", "over_by": "p n k"},
    "fractions": {"fraction": "top bottom", "plus": "a b", "minus": "a b", "times": "a b", "over": "a b", "less": "a b",
                  "power_in": "p a", "prime_power": "p k", "alike": "p k a b", "rest_by": "p k a"},
    "texts": {"fraction_text": "a", "spot_text": "spot", "end_text": "end", "read_fraction": "text",
              "read_spot": "p text", "read_end": "text"},
    "tables": {"one_table": "", "table_of": "a b c d", "measure": "table", "trace": "table", "product": "one other",
               "turned_over": "table", "stretched": "table a"},
    "grids": {"is_spot": "p thing", "spot_of": "p table", "table_at": "p spot", "two_numbers": "p table",
              "lies_in": "p one other", "way": "p one other"},
    "ties": {"ties": "p spot", "tied": "p one other", "within": "p spot r"},
    "roads": {"road": "p one other", "meeting": "p one two three", "sums_of_ways": "p four"},
    "moves": {"moved": "p table spot", "mover": "p table", "some_moved": "p table"},
    "deeds": {"Deed": "", "Scale": "number", "Shift": "number", "Flip": "", "deeds_of": "table",
              "all_done": "p deeds spot"},
    "ends": {"led": "table end", "next_to": "p spot end", "road_to": "p spot end steps"},
    "figures": {"figures": "p a", "by_figures": "p first head again"},
    "lines": {"on_line": "p spot one other", "nearest": "p spot one other"},
    "kinds": {"kind": "p table", "kept_within": "p table spot r", "holds": "p table told"},
    "apart": {"is_firm": "p table", "taken_apart": "p table"},
    "desk": {"Desk": "p"},
}


def arguments_of(thing):
    return list(inspect.signature(thing).parameters)


class TestInterface(unittest.TestCase):
    def test_names_and_arguments(self):
        for file, names in INTERFACE.items():
            module = importlib.import_module("primetree." + file)
            for name, arguments in names.items():
                self.assertEqual(arguments_of(getattr(module, name)), arguments.split(), (file, name))

    def test_the_bottom_alone_may_be_left_out(self):
        for file, names in INTERFACE.items():
            module = importlib.import_module("primetree." + file)
            for name in names:
                for argument in inspect.signature(getattr(module, name)).parameters.values():
                    left_out = argument.default is not inspect.Parameter.empty
                    self.assertEqual(left_out, (name, argument.name) == ("fraction", "bottom"), (file, name))

    def test_methods(self):
        for kind_of_deed in (Scale, Shift, Flip):
            for name, arguments in (("table", ""), ("done", "p spot"), ("back", ""), ("shown", "")):
                self.assertEqual(arguments_of(getattr(kind_of_deed, name)), ["self"] + arguments.split())
        for name, arguments in (("say", "row"), ("lies", ""), ("steps", "")):
            self.assertEqual(arguments_of(getattr(Desk, name)), ["self"] + arguments.split())

    def test_classes(self):
        for kind_of_deed in (Scale, Shift, Flip):
            self.assertEqual(kind_of_deed.__bases__, (Deed,))
        self.assertEqual(errors.TreeError.__bases__, (ValueError,))
        for refusal in REFUSALS:
            self.assertEqual(refusal.__bases__, (errors.TreeError,))
        self.assertEqual(len(set(REFUSALS)), 10)

    def test_no_refusal_stands_under_another_one(self):
        for file in INTERFACE:
            module = importlib.import_module("primetree." + file)
            for thing in vars(module).values():
                if inspect.isclass(thing) and issubclass(thing, Exception):
                    self.assertIn(thing, REFUSALS + (errors.TreeError,))
        for one in REFUSALS:
            for other in REFUSALS:
                self.assertEqual(issubclass(one, other), one is other)

    def test_how_refusals_are_made(self):
        for name in NAMES_OF_REFUSALS[:-1]:
            self.assertIsInstance(getattr(errors, name)("a text"), errors.TreeError)
        self.assertEqual(errors.TooFar(501).far, 501)


class TestKinds(unittest.TestCase):
    """What is told is of the kind that the interface tells."""

    def test_truths(self):
        for p in PRIMES:
            for told in (less((0, 1), (1, 1)), alike(p, 0, (0, 1), (1, 1)), is_spot(p, FIRST),
                         tied(p, FIRST, (1, (1, 1))), on_line(p, FIRST, (0, 1), "far"),
                         holds(p, one_table(), ("keeps", FIRST)), is_firm(p, one_table())):
                self.assertIs(told, True)
            for told in (less((1, 1), (0, 1)), alike(p, 1, (0, 1), (1, 1)), is_spot(p, None), tied(p, FIRST, FIRST),
                         on_line(p, (1, (1, 1)), (0, 1), "far"), holds(p, one_table(), ("turns", FIRST, FIRST)),
                         is_firm(p, stretched(one_table(), (p, 1)))):
                self.assertIs(told, False)

    def test_whole_numbers_are_no_truths(self):
        for p in PRIMES:
            for told in (way(p, FIRST, (1, (0, 1))), *lies_in(p, FIRST, (1, (0, 1))), *two_numbers(p, one_table()),
                         nearest(p, (1, (1, 1)), (0, 1), "far")[1], kind(p, table_from(p, 0, 0, 1))[1],
                         *taken_apart(p, table_from(1, 0, 0, p))[1:3], Desk(p).steps(), *sums_of_ways(p, [FIRST] * 4),
                         figures(p, (1, 1))[0], *figures(p, (1, 1))[1], *figures(p, (1, 1))[2]):
                self.assertTrue(is_whole(told), told)

    def test_spots_tables_and_fractions(self):
        for p in PRIMES:
            for table in tables_for(p)[::90]:
                for told in (spot_of(p, table), moved(p, table, FIRST), mover(p, table)(FIRST),
                             next_to(p, FIRST, led(table, "far")), nearest(p, FIRST, "far", led(table, (0, 1)))[0]
                             if led(table, (0, 1)) != "far" else FIRST):
                    self.assertTrue(is_spot_by_words(p, told))
                    self.assertIs(is_spot(p, told), True)
                left, low, high, right = taken_apart(p, table)
                for told in (left, right, turned_over(table), product(table, table), *[deed.table() for deed in
                                                                                       deeds_of(table)]):
                    self.assertTrue(is_table(told))
                self.assertTrue(is_fraction(rest_by(p, low, table[0])))


class TestListsAreTheAskersOwn(unittest.TestCase):
    def asked(self, p):
        """Calls that tell a list, or a tuple with lists in it."""
        return [lambda: ties(p, FIRST), lambda: within(p, FIRST, 1), lambda: road(p, FIRST, (1, (1, 1))),
                lambda: road(p, FIRST, FIRST), lambda: sums_of_ways(p, [FIRST] * 4), lambda: deeds_of(one_table()),
                lambda: road_to(p, FIRST, "far", 2), lambda: road_to(p, FIRST, "far", 0), lambda: figures(p, (7, 11)),
                lambda: figures(p, (0, 1)), lambda: kind(p, table_from(p, 0, 0, 1)),
                lambda: kept_within(p, one_table(), FIRST, 1), lambda: kept_within(p, table_from(p, 0, 0, 1), FIRST, 1)]

    def lists_in(self, told):
        if isinstance(told, list):
            return [told]
        return [part for part in told if isinstance(part, list)]

    def test_each_is_a_new_one(self):
        for p in PRIMES:
            for ask in self.asked(p):
                one = self.lists_in(ask())
                other = self.lists_in(ask())
                self.assertTrue(one)
                self.assertEqual(one, other)
                self.assertEqual(len({id(some) for some in one + other}), len(one + other))

    def test_changing_it_changes_nothing_that_is_told_later(self):
        for p in PRIMES:
            for ask in self.asked(p):
                before = [list(some) for some in self.lists_in(ask())]
                for some in self.lists_in(ask()):
                    some.append("changed")
                    some.reverse()
                for some in self.lists_in(ask()):
                    some.clear()
                self.assertEqual(self.lists_in(ask()), before)

    def test_nothing_asked_later_changes_it(self):
        for p in PRIMES:
            told = [self.lists_in(ask()) for ask in self.asked(p)]
            kept = [[list(some) for some in lists] for lists in told]
            for ask in self.asked(p):
                for some in self.lists_in(ask()):
                    some.clear()
            desk = Desk(p)
            for row in ("go 1:1", "ties", "road 0:0", "within 1", "figures 7/11", f"kind {p} 0 0 1", "undo"):
                desk.say(row)
            self.assertEqual(told, kept)


class TestWhatIsHandedIn(unittest.TestCase):
    def test_lists_are_not_changed(self):
        for p in PRIMES:
            four = [FIRST, (1, (1, 1)), (-1, (0, 1)), (2, (0, 1))]
            head, again, deeds = [1, 0], [0, 1, 1], [Scale((p, 1)), Flip(), Shift((1, 3))]
            stretch = [FIRST, (1, (0, 1))]
            copies = [list(some) for some in (four, head, again, deeds, stretch)]
            for step in range(2):
                sums_of_ways(p, four)
                by_figures(p, -1, head, again)
                all_done(p, deeds, FIRST)
                holds(p, table_from(p, 0, 0, 1), ("slides", 1, stretch))
                holds(p, table_from(p * p, 0, 0, 1), ("slides", 1, stretch))
            self.assertEqual([four, head, again, deeds, stretch], copies)

    def test_what_is_changed_later_changes_nothing_that_was_told(self):
        for p in PRIMES:
            four = [FIRST, (1, (1, 1)), (-1, (0, 1)), (2, (0, 1))]
            told = sums_of_ways(p, four)
            kept = list(told)
            four.clear()
            self.assertEqual(told, kept)
            stretch = kind(p, table_from(p, 0, 0, 1))[2]
            handed = ("slides", 1, stretch)
            self.assertIs(holds(p, table_from(p, 0, 0, 1), handed), True)
            stretch.reverse()
            self.assertIs(holds(p, table_from(p, 0, 0, 1), handed), False)
            stretch.reverse()
            self.assertIs(holds(p, table_from(p, 0, 0, 1), handed), True)

    def test_deeds_stay_as_they_were_made(self):
        for p in PRIMES:
            for deed in (Scale((-3, p)), Shift((1, 3)), Flip()):
                before = (deed.table(), deed.shown())
                deed.back()
                deed.done(p, FIRST)
                all_done(p, [deed, deed], FIRST)
                self.assertEqual((deed.table(), deed.shown()), before)

    def test_a_mover_keeps_its_table(self):
        for p in PRIMES:
            one = mover(p, table_from(p, 0, 0, 1))
            other = mover(p, table_from(1, 1, 0, 1))
            for spot in some_spots(p)[::5]:
                self.assertEqual(one(spot), moved(p, table_from(p, 0, 0, 1), spot))
                self.assertEqual(other(spot), moved(p, table_from(1, 1, 0, 1), spot))


class TestHowItHangsTogether(unittest.TestCase):
    def test_a_table_moves_roads_lines_and_meetings(self):
        for p in PRIMES:
            for table in some_tables(p)[::3]:
                move = mover(p, table)
                one, two, three = (1, (1, 1)), (-2, (1, p ** 4)), (3, (p, 1))
                self.assertEqual([move(spot) for spot in road(p, one, two)], road(p, move(one), move(two)))
                self.assertEqual(move(meeting(p, one, two, three)), meeting(p, move(one), move(two), move(three)))
                self.assertEqual(sorted(move(tie) for tie in ties(p, one)), ties(p, move(one)))
                self.assertEqual(sums_of_ways(p, [one, two, three, FIRST]),
                                 sums_of_ways(p, [move(one), move(two), move(three), move(FIRST)]))

    def test_a_table_is_its_deeds_and_its_parts(self):
        for p in PRIMES:
            for table in tables_for(p)[::40] + great_tables(p):
                left, low, high, right = taken_apart(p, table)
                middle = (prime_power(p, low), (0, 1), (0, 1), prime_power(p, high))
                self.assertEqual(product(product(left, middle), right), table)
                self.assertLessEqual(len(deeds_of(table)), 4)
                for spot in (FIRST, (2, (1, 1)), (-1, (1, p ** 3))):
                    there = moved(p, table, spot)
                    self.assertEqual(all_done(p, deeds_of(table), spot), there)
                    self.assertEqual(moved(p, left, moved(p, middle, moved(p, right, spot))), there)

    def test_what_moves_no_spot_keeps_all(self):
        for p in PRIMES:
            for table in tables_for(p)[::3] + [one_table(), stretched(one_table(), (p, 11))]:
                spot = some_moved(p, table)
                if spot is None:
                    self.assertEqual(kept_within(p, table, (1, (1, 1)), 2), within(p, (1, (1, 1)), 2))
                    self.assertEqual(kind(p, table)[0], "keeps")
                else:
                    self.assertIs(holds(p, table, ("keeps", spot)), False)

    def test_a_slide_goes_along_the_line_of_two_ends(self):
        # These lead far and -1 / (p - 1) to themselves, so their line is the one between these two ends.
        for p in PRIMES:
            table = table_from(p, 1, 0, 1)
            end = pair(Fraction(-1, p - 1))
            self.assertEqual((led(table, "far"), led(table, end)), ("far", end))
            steps, stretch = kind(p, table)[1:]
            self.assertEqual(steps, 1)
            for spot in stretch:
                self.assertIs(on_line(p, spot, "far", end), True)
            for spot in some_spots(p)[::4]:
                here, far = nearest(p, spot, "far", end)
                self.assertEqual(way(p, spot, moved(p, table, spot)), 2 * far + 1)
                self.assertEqual(way(p, here, moved(p, table, here)), 1)

    def test_the_figures_are_those_of_the_road(self):
        for p in PRIMES:
            for number in (Fraction(-11, 13), Fraction(7 * p + 1, 11), Fraction(2, 11 * p * p)):
                first, head, again = figures(p, pair(number))
                row = (head + again * 40)[:30]
                spots = road_to(p, spot_by_number(p, first, 0), pair(number), 30)
                self.assertEqual(spots[0][0], first)
                for i, figure in enumerate(row):
                    step = Fraction(*spots[i + 1][1]) - Fraction(*spots[i][1])
                    self.assertEqual(step, figure * Fraction(p) ** (first + i))

    def test_the_way_is_that_of_the_parts(self):
        for p in PRIMES:
            for one in some_spots(p)[::6]:
                for other in some_spots(p)[::7]:
                    table = product(turned_over(table_at(p, one)), table_at(p, other))
                    left, low, high, right = taken_apart(p, table)
                    self.assertEqual((low, high), lies_in(p, one, other))
                    self.assertEqual(high - low, way(p, one, other))

    def test_products_of_what_is_told(self):
        for p in PRIMES:
            for table in great_tables(p):
                numbers = product_by_numbers(numbers_of(table), numbers_of(turned_over(table)))
                self.assertEqual(numbers, (1, 0, 0, 1))
                a, b, c, d = numbers_of(table)
                self.assertEqual(sum(two_numbers(p, table)), power_of_number(p, a * d - b * c))


if __name__ == "__main__":
    unittest.main()

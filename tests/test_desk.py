import unittest
from fractions import Fraction

from helper import (PRIMES, SIXTY_FIGURES, check_refused, ends_for, great_tables, is_spot_by_words, is_whole,
                    number_of, numbers_of, pair, product_by_numbers, some_numbers, some_spots, some_tables,
                    spot_by_number, table_from, way_by_parting)
from primetree.deeds import Flip, Scale, Shift
from primetree.desk import Desk
from primetree.ends import road_to
from primetree.errors import (NoFraction, NoLine, NoRow, NoSpot, NoTable, NoText, NothingDone, TooFar, TooMany,
                              TreeError)
from primetree.figures import figures
from primetree.grids import spot_of, table_at, two_numbers
from primetree.kinds import kind
from primetree.lines import nearest
from primetree.moves import moved
from primetree.roads import meeting, road
from primetree.tables import one_table
from primetree.ties import ties, within

FIRST = (0, (0, 1))
REACHES = ((2, 7), (3, 4), (5, 3), (7, 2))
SIXTY = "9" * 60

# One row of each kind, which no prime's desk refuses at its beginning, but undo.
GOOD_ROWS = ("go 0:0", "move 1 2 3 4", "scale 1/2", "shift -3", "flip", "ties", "road 1:0", "towards far 2",
             "towards 1/3 0", "way 1:0", "meet 0:0 1:0", "near far 0", "within 2", "kind 1 0 0 1", "numbers 1 0 0 1",
             "figures 1/3")
CHANGES = ("go 1:0", "move 1 2 3 5", "scale 7/2", "shift -1/3", "flip")


def text_of(a):
    number = number_of(a)
    return str(number)


def spot_text_of(spot):
    return f"{spot[0]}:{text_of(spot[1])}"


def end_text_of(end):
    return end if end == "far" else text_of(end)


def row_of(word, table):
    return " ".join([word] + [text_of(a) for a in table])


def readable_spots(p):
    """Spots whose texts have at most sixty figures each."""
    return [spot for spot in some_spots(p) if max(spot[1]) < 10 ** 60]


def state(desk):
    return (desk.lies(), desk.steps())


def asked(desk, row):
    return lambda: desk.say(row)


class TestMade(unittest.TestCase):
    def test_at_first_the_first_spot_lies_there(self):
        for p in PRIMES:
            desk = Desk(p)
            self.assertEqual(desk.lies(), FIRST)
            self.assertTrue(is_spot_by_words(p, desk.lies()))
            self.assertEqual(desk.steps(), 0)
            self.assertTrue(is_whole(desk.steps()))

    def test_by_name(self):
        desk = Desk(p=3)
        self.assertEqual(desk.say(row="go 1:2"), "1:2")
        self.assertEqual(desk.say(row="ties"), "0:0 2:2 2:5 2:8")

    def test_two_desks_are_two(self):
        one = Desk(2)
        other = Desk(2)
        third = Desk(3)
        one.say("go 1:1")
        third.say("go 1:2")
        self.assertEqual((state(one), state(other), state(third)), (((1, (1, 1)), 1), (FIRST, 0), ((1, (2, 1)), 1)))
        check_refused(self, NothingDone, other.say, "undo")
        self.assertEqual(one.say("undo"), "0:0")
        self.assertEqual(state(third), ((1, (2, 1)), 1))


class TestChanges(unittest.TestCase):
    def check(self, p, before, row, there):
        """The row, told to a desk on which the spot lies, lays the other one there; undone, it lies as before."""
        desk = Desk(p)
        desk.say("go " + spot_text_of(before))
        told = desk.say(row)
        self.assertIs(type(told), str)
        self.assertEqual(told, spot_text_of(there), (p, before, row))
        self.assertEqual(state(desk), (there, 2))
        self.assertTrue(is_spot_by_words(p, desk.lies()))
        self.assertEqual(desk.say("undo"), spot_text_of(before))
        self.assertEqual(state(desk), (before, 1))
        self.assertEqual(desk.say("undo"), "0:0")
        self.assertEqual(state(desk), (FIRST, 0))

    def test_ordinary(self):
        for p, rows in ((2, (("go 2:15/4", "2:15/4"), ("move 1 1 0 2", "1:3/8"), ("scale 1/2", "0:3/16"),
                             ("shift -3", "0:3/16"), ("flip", "8:176"), ("undo", "0:3/16"), ("go -1:0", "-1:0"))),
                        (3, (("go 2:5", "2:5"), ("scale 3", "3:15"), ("shift 1/3", "3:46/3"), ("flip", "5:111"),
                             ("move 3 0 0 1", "6:333"), ("undo", "5:111"), ("undo", "3:46/3"))),
                        (5, (("scale -1/5", "-1:0"), ("shift 1/25", "-1:1/25"), ("flip", "3:25"), ("undo", "-1:1/25"))),
                        (7, (("go 1:3", "1:3"), ("shift 5", "1:1"), ("scale 2", "1:2"), ("flip", "1:4"),
                             ("move 0 1 1 0", "1:2"), ("move 1 0 0 7", "0:2/7")))):
            desk = Desk(p)
            for row, answer in rows:
                self.assertEqual(desk.say(row), answer, (p, row))

    def test_go(self):
        for p in PRIMES:
            for spot in readable_spots(p):
                for before in readable_spots(p)[::13]:
                    self.check(p, before, "go " + spot_text_of(spot), spot)

    def test_go_to_the_edges(self):
        for p in PRIMES:
            for k in (-300, -299, 299, 300):
                self.check(p, FIRST, f"go {k}:0", (k, (0, 1)))
            self.check(p, FIRST, "go 300:1" + "0" * 59, spot_by_number(p, 300, 10 ** 59))

    def test_move(self):
        for p in PRIMES:
            for table in some_tables(p)[::2]:
                for spot in readable_spots(p)[::7]:
                    grid = product_by_numbers(numbers_of(table), numbers_of(table_at(p, spot)))
                    self.check(p, spot, row_of("move", table), spot_of(p, table_from(*grid)))

    def test_move_with_the_fractions_in_their_order(self):
        for p in PRIMES:
            desk = Desk(p)
            self.assertEqual(desk.say(f"move {p} 1 0 1"), "1:1")
            desk.say("undo")
            self.assertEqual(desk.say(f"move 1 0 1 {p}"), spot_text_of(spot_of(p, table_from(1, 0, 1, p))))
            self.assertEqual(desk.lies(), (1, (1, 1)))

    def test_deeds(self):
        for p in PRIMES:
            for number in some_numbers(p):
                for spot in readable_spots(p)[::5]:
                    self.check(p, spot, "scale " + str(number), Scale(pair(number)).done(p, spot))
                    self.check(p, spot, "shift " + str(number), Shift(pair(number)).done(p, spot))
            for spot in readable_spots(p):
                self.check(p, spot, "shift 0", spot)
                self.check(p, spot, "scale 1", spot)
                self.check(p, spot, "flip", Flip().done(p, spot))

    def test_what_changes_nothing_is_a_row_to_undo_too(self):
        for p in PRIMES:
            desk = Desk(p)
            for i, row in enumerate(("go 0:0", "move 1 0 0 1", "scale 1", "shift 0", "flip", "shift 1", "go 0:0")):
                self.assertEqual(desk.say(row), "0:0")
                self.assertEqual(state(desk), (FIRST, i + 1))
            for i in range(7):
                self.assertEqual(desk.say("undo"), "0:0")
                self.assertEqual(state(desk), (FIRST, 6 - i))
            check_refused(self, NothingDone, desk.say, "undo")


class TestUndo(unittest.TestCase):
    def test_each_kind_of_row(self):
        for p in PRIMES:
            for row in CHANGES:
                desk = Desk(p)
                desk.say("go 3:2")
                there = desk.say(row)
                self.assertNotEqual(there, "3:2", (p, row))
                self.assertEqual(desk.say("undo"), "3:2", (p, row))
                self.assertEqual(state(desk), ((3, (2, 1)), 1))

    def test_several_in_a_row(self):
        for p in PRIMES:
            desk = Desk(p)
            lay = [desk.lies()]
            for row in CHANGES * 3:
                desk.say(row)
                lay.append(desk.lies())
            for spot in lay[-2::-1]:
                self.assertEqual(desk.say("undo"), spot_text_of(spot))
                self.assertEqual(desk.lies(), spot)
            self.assertEqual(desk.steps(), 0)
            check_refused(self, NothingDone, desk.say, "undo")
            self.assertEqual(state(desk), (FIRST, 0))

    def test_of_rows_between_undone_ones(self):
        desk = Desk(2)
        for row, answer, steps in (("go 1:1", "1:1", 1), ("go 2:2", "2:2", 2), ("undo", "1:1", 1), ("go 3:3", "3:3", 2),
                                   ("scale 2", "4:6", 3), ("undo", "3:3", 2), ("undo", "1:1", 1), ("go 5:5", "5:5", 2),
                                   ("undo", "1:1", 1), ("undo", "0:0", 0), ("flip", "0:0", 1), ("undo", "0:0", 0)):
            self.assertEqual(desk.say(row), answer)
            self.assertEqual(desk.steps(), steps)
        check_refused(self, NothingDone, desk.say, "undo")

    def test_nothing_is_left(self):
        for p in PRIMES:
            desk = Desk(p)
            for step in range(3):
                check_refused(self, NothingDone, desk.say, "undo")
                self.assertEqual(state(desk), (FIRST, 0))
            desk.say("go 1:0")
            desk.say("undo")
            check_refused(self, NothingDone, desk.say, "undo")
            self.assertEqual(desk.say("go 1:1"), "1:1")
            self.assertEqual(desk.say("undo"), "0:0")
            check_refused(self, NothingDone, desk.say, "undo")

    def test_what_only_asks_is_not_undone(self):
        for p in PRIMES:
            desk = Desk(p)
            desk.say("go 1:1")
            for row in GOOD_ROWS[5:]:
                desk.say(row)
                self.assertEqual(state(desk), ((1, (1, 1)), 1), row)
            self.assertEqual(desk.say("undo"), "0:0")
            for row in GOOD_ROWS[5:]:
                desk.say(row)
            check_refused(self, NothingDone, desk.say, "undo")

    def test_hundreds_of_rows(self):
        for p in PRIMES:
            desk = Desk(p)
            lay = []
            for i in range(300):
                lay.append(desk.lies())
                desk.say(("shift 1/7" if p != 7 else "shift 1/5", "flip", "move 1 2 3 4", "scale -1")[i % 4])
                self.assertEqual(desk.steps(), i + 1)
            for spot in lay[::-1]:
                self.assertEqual(desk.say("undo"), spot_text_of(spot))
            self.assertEqual(state(desk), (FIRST, 0))


class TestQuestions(unittest.TestCase):
    def check(self, p, spot, row, answer):
        desk = Desk(p)
        desk.say("go " + spot_text_of(spot))
        told = desk.say(row)
        self.assertIs(type(told), str)
        self.assertEqual(told, answer, (p, spot, row))
        self.assertEqual(state(desk), (spot, 1))
        self.assertEqual(desk.say(row), answer)

    def each(self, p, most):
        spots = readable_spots(p)
        return spots[::len(spots) // most]

    def test_ordinary(self):
        for p, spot, row, answer in (
                (2, FIRST, "ties", "-1:0 1:0 1:1"), (2, (0, (3, 16)), "ties", "-1:3/16 1:3/16 1:19/16"),
                (3, (1, (2, 1)), "ties", "0:0 2:2 2:5 2:8"), (5, FIRST, "ties", "-1:0 1:0 1:1 1:2 1:3 1:4"),
                (7, (-1, (0, 1)), "ties", "-2:0 0:0 0:1/7 0:2/7 0:3/7 0:4/7 0:5/7 0:6/7"),
                (2, FIRST, "road 2:3", "0:0 1:1 2:3"), (2, FIRST, "road 0:0", "0:0"),
                (3, (1, (2, 1)), "road 1:1", "1:2 0:0 1:1"), (5, (0, (1, 5)), "road -2:0", "0:1/5 -1:0 -2:0"),
                (2, FIRST, "towards 1/3 3", "0:0 1:1 2:3 3:3"), (7, FIRST, "towards far 2", "0:0 -1:0 -2:0"),
                (3, (1, (2, 1)), "towards 0 0", "1:2"), (5, (1, (2, 1)), "towards -1/5 4", "1:2 0:0 -1:0 0:4/5 1:24/5"),
                (2, FIRST, "way 2:3", "2"), (2, (-1, (0, 1)), "way 2:15/4", "5"), (7, FIRST, "way 0:0", "0"),
                (2, (1, (0, 1)), "meet 1:1 -1:0", "0:0"), (3, (2, (4, 1)), "meet 2:1 2:7", "1:1"),
                (2, (1, (1, 1)), "near 0 far", "0:0 1"), (2, (1, (0, 1)), "near far 0", "1:0 0"),
                (3, (-2, (0, 1)), "near -1 8", "2:8 4"), (5, (0, (2, 5)), "near 0 1/5", "-1:0 1"),
                (2, FIRST, "within 7", "382"), (2, (2, (3, 1)), "within 0", "1"), (3, FIRST, "within 1", "5"),
                (3, FIRST, "within 4", "161"), (5, FIRST, "within 3", "187"), (7, FIRST, "within 2", "65"),
                (2, FIRST, "kind 2 0 0 1", "slides 1"), (2, FIRST, "kind 0 1 1 0", "keeps"),
                (2, FIRST, "kind 0 1 2 0", "turns"), (3, FIRST, "kind 1/9 0 5 81", "slides 6"),
                (5, FIRST, "kind 0 1 5 0", "turns"), (7, FIRST, "kind 1 1/7 0 1", "keeps"),
                (2, FIRST, "numbers 1 2 3 4", "0 1"), (3, FIRST, "numbers 1/3 0 0 9", "-1 2"),
                (5, FIRST, "numbers 5 0 0 5", "1 1"), (7, FIRST, "numbers 1/49 0 0 1/7", "-2 -1"),
                (2, FIRST, "figures 1/3", "0 1 10"), (2, FIRST, "figures -1", "0 - 1"),
                (2, FIRST, "figures 0", "0 - 0"), (2, FIRST, "figures 5/8", "-3 101 0"),
                (3, FIRST, "figures 1/2", "0 2 1"), (5, FIRST, "figures 7/25", "-2 21 0"),
                (7, FIRST, "figures -1/7", "-1 - 6"), (5, FIRST, "figures 7", "0 21 0")):
            self.check(p, spot, row, answer)

    def test_ties(self):
        for p in PRIMES:
            for spot in readable_spots(p):
                self.check(p, spot, "ties", " ".join(spot_text_of(tie) for tie in ties(p, spot)))

    def test_road_and_way(self):
        for p in PRIMES:
            for one in self.each(p, 9):
                for other in self.each(p, 14):
                    far = way_by_parting(p, one, other)
                    self.check(p, one, "way " + spot_text_of(other), str(far))
                    if far <= 500:
                        self.check(p, one, "road " + spot_text_of(other),
                                   " ".join(spot_text_of(spot) for spot in road(p, one, other)))

    def test_a_road_of_five_hundred_and_of_one_more(self):
        for p in PRIMES:
            desk = Desk(p)
            desk.say("go -200:0")
            told = desk.say("road 300:0").split(" ")
            self.assertEqual(told, [f"{k}:0" for k in range(-200, 301)])
            desk.say("go -201:0")
            check_refused(self, TooFar, desk.say, "road 300:0")
            with self.assertRaises(TooFar) as caught:
                desk.say("road 300:0")
            self.assertEqual(caught.exception.far, 501)
            self.assertEqual(state(desk), ((-201, (0, 1)), 2))
            self.assertEqual(desk.say("way 300:0"), "501")

    def test_towards(self):
        for p in PRIMES:
            for spot in self.each(p, 7):
                for end in ends_for(p)[::2]:
                    for steps in (0, 1, 7, 12):
                        told = " ".join(spot_text_of(one) for one in road_to(p, spot, end, steps))
                        self.check(p, spot, f"towards {end_text_of(end)} {steps}", told)

    def test_towards_by_three_hundred_steps(self):
        for p in PRIMES:
            for end in ("far", (-11, 13)):
                told = " ".join(spot_text_of(one) for one in road_to(p, FIRST, end, 300))
                self.check(p, FIRST, f"towards {end_text_of(end)} 300", told)
                self.assertEqual(told.count(" "), 300)

    def test_meet(self):
        for p in PRIMES:
            for one in self.each(p, 5):
                for two in self.each(p, 6):
                    for three in self.each(p, 7):
                        self.check(p, one, f"meet {spot_text_of(two)} {spot_text_of(three)}",
                                   spot_text_of(meeting(p, one, two, three)))

    def test_near(self):
        for p in PRIMES:
            for spot in self.each(p, 6):
                for one in ends_for(p)[::2]:
                    for other in ends_for(p):
                        if one != other:
                            here, far = nearest(p, spot, one, other)
                            self.check(p, spot, f"near {end_text_of(one)} {end_text_of(other)}",
                                       f"{spot_text_of(here)} {far}")

    def test_within(self):
        for p, most in REACHES:
            for r in range(most + 1):
                for spot in self.each(p, 3):
                    self.check(p, spot, f"within {r}", str(len(within(p, spot, r))))
                    self.check(p, spot, f"within {r}", str(1 + (p + 1) * (p ** r - 1) // (p - 1)))

    def test_kind_and_numbers(self):
        for p in PRIMES:
            for table in some_tables(p) + great_tables(p):
                low, high = two_numbers(p, table)
                self.check(p, (1, (1, 1)), row_of("numbers", table), f"{low} {high}")
                told = kind(p, table)
                self.check(p, (1, (1, 1)), row_of("kind", table),
                           told[0] if told[0] != "slides" else f"slides {told[1]}")

    def test_long_slides(self):
        desk = Desk(2)
        for n, steps in ((101, 499), (102, 500), (103, 501)):
            table = table_from(Fraction(1, 2 ** 199), 1, 1 - 2 ** n, 2 ** 199)
            if steps <= 500:
                self.assertEqual(desk.say(row_of("kind", table)), f"slides {steps}")
            else:
                check_refused(self, TooFar, desk.say, row_of("kind", table))
                with self.assertRaises(TooFar) as caught:
                    desk.say(row_of("kind", table))
                self.assertEqual(caught.exception.far, steps)
        self.assertEqual(state(desk), (FIRST, 0))

    def test_figures(self):
        for p in PRIMES:
            for number in (0, 1, -1, p, Fraction(1, p), Fraction(-11, 13), Fraction(5, 11 * p ** 3), Fraction(1, 293),
                           Fraction(p - 2, 9 - p), 10 ** 59, Fraction(SIXTY_FIGURES, p ** 50), Fraction(-7, 299)):
                first, head, again = figures(p, pair(Fraction(number)))
                heads = "".join(str(figure) for figure in head) or "-"
                agains = "".join(str(figure) for figure in again)
                self.check(p, (1, (1, 1)), f"figures {number}", f"{first} {heads} {agains}")

    def test_figures_without_a_head_and_with_one(self):
        for p in PRIMES:
            desk = Desk(p)
            self.assertEqual(desk.say("figures 0"), "0 - 0")
            self.assertEqual(desk.say("figures 1"), "0 1 0")
            self.assertEqual(desk.say("figures -1"), f"0 - {p - 1}")
            self.assertEqual(desk.say(f"figures -1/{p ** 4}"), f"-4 - {p - 1}")
            self.assertEqual(desk.say(f"figures {p + 1}"), "0 11 0")


class TestNoRow(unittest.TestCase):
    def refuse(self, row):
        for p in PRIMES:
            desk = Desk(p)
            desk.say("go 1:1")
            check_refused(self, NoRow, desk.say, row)
            self.assertEqual(state(desk), ((1, (1, 1)), 1), repr(row))

    def test_the_rows_are_none_of_these(self):
        for row in ("", " ", "  ", "\n", "\t", "0", "0:0", "far", "Go 0:0", "GO 0:0", "goto 0:0", "g 0:0", "go:0",
                    "spot", "SPOT", "stay", "kinds 1 0 0 1", "number 1 0 0 1", "figure 1", "tie", "roads 0:0", "redo",
                    "undo!", "flip.", "Flip", "FLIP", "keeps", "help", "near:", "-", "to 0:0", "lies", "steps", "say",
                    "towards:far 3", "within7", "go0:0", "None", "__init__", "F", "\u0131ties", "flip\u00a0"):
            self.refuse(row)

    def test_a_word_more_or_fewer(self):
        for row in GOOD_ROWS + ("undo",):
            words = row.split(" ")
            self.refuse(row + " 0")
            self.refuse(row + " 0:0")
            self.refuse(row + " 1 1")
            self.refuse(row + " far")
            if len(words) > 1:
                self.refuse(" ".join(words[:-1]))
                self.refuse(words[0])
            if len(words) > 2:
                self.refuse(words[0] + " " + words[1])
        for row in ("move 1 0 0", "move 1 0 0 1 1", "kind 1", "numbers 1 2", "meet 0:0", "near far", "towards far",
                    "towards 3", "within", "go", "way", "road", "figures", "scale", "shift"):
            self.refuse(row)

    def test_blanks(self):
        for row in GOOD_ROWS + ("undo",):
            self.refuse(" " + row)
            self.refuse(row + " ")
            self.refuse("  " + row)
            self.refuse(row + "  ")
            if " " in row:
                self.refuse(row.replace(" ", "  "))
                self.refuse(row.replace(" ", "  ", 1))
                self.refuse(row.replace(" ", "\t"))
                self.refuse(row.replace(" ", "\n"))
                self.refuse(row.replace(" ", "\u00a0"))
        for row in ("go ", "go  ", "scale ", "meet 0:0 ", "meet  0:0", "near far ", "move 1 0 0 ", "move  1 0 1",
                    "within ", "towards far ", "towards  5"):
            self.refuse(row)

    def test_other_blanks_behind_the_first_word(self):
        for row in ("flip", "undo", "ties"):
            for sign in ("\n", "\t", "\r", "\x0b", "\x0c", "\u00a0", "\u2003", "\x00"):
                self.refuse(row + sign)
                self.refuse(sign + row)

    def test_within_and_an_n_that_is_none(self):
        for word in ("8", "9", "10", "70", "77", "300", "1000", "-1", "-0", "+1", "00", "01", "07", "007", "1.0", "7.",
                     "1e0", "a", "N", "seven", "7/1", "1/2", "0:0", "far", "\u0667", "\uff17", "7\n", "\t7", "1_0",
                     "0x1", "--1", "7,", "9" * 60, "9" * 900, "-8", "\u00b2"):
            self.refuse("within " + word)

    def test_towards_and_an_n_that_is_none(self):
        for word in ("301", "302", "999", "1000", "3000", "-1", "-0", "+1", "00", "01", "0300", "000", "007", "300.",
                     "3e2", "a", "N", "7/1", "1/2", "0:0", "far", "\u0667", "3\u0660", "300\n", "\t7", "3_0", "0x1",
                     "9" * 60, "9" * 900, "-300", "\u00b9"):
            for end in ("far", "0", "-1/3"):
                self.refuse(f"towards {end} {word}")

    def test_n_at_its_edges(self):
        for p, most in REACHES:
            desk = Desk(p)
            self.assertEqual(desk.say("within 0"), "1")
            for r in range(8):
                if r <= most:
                    self.assertEqual(desk.say(f"within {r}"), str(len(within(p, FIRST, r))))
                else:
                    check_refused(self, TooMany, desk.say, f"within {r}")
            check_refused(self, NoRow, desk.say, "within 8")
            for steps in (0, 1, 7, 8, 9, 10, 99, 100, 299, 300):
                self.assertEqual(desk.say(f"towards far {steps}").split(" "), [f"{-i}:0" for i in range(steps + 1)])
            check_refused(self, NoRow, desk.say, "towards far 301")
            self.assertEqual(state(desk), (FIRST, 0))


class TestOrderOfRefusals(unittest.TestCase):
    def refuse(self, refusal, row, primes=PRIMES):
        for p in primes:
            desk = Desk(p)
            desk.say("go 1:1")
            desk.say("go 2:1")
            check_refused(self, refusal, desk.say, row)
            self.assertEqual(state(desk), ((2, (1, 1)), 2), repr(row))
            self.assertEqual(desk.say("undo"), "1:1")
            self.assertEqual(desk.say("undo"), "0:0")

    def test_no_fraction_or_end(self):
        for word in ("a", "1/0", "2/4", "01", "-0", "1/1", "+1", "1.5", "0:0", "1/-2", "-", "/", "1" + "0" * 60,
                     "9" * 900, "1\n", "\u0661", "Far", "FAR", "farr", "1/2/3"):
            for row in ("scale {}", "shift {}", "figures {}", "towards {} 3", "near {} 0", "near 0 {}", "near far {}",
                        "move {} 0 0 1", "move 1 {} 0 1", "move 1 0 {} 1", "move 1 0 0 {}", "kind {} 0 0 1",
                        "kind 1 0 0 {}", "numbers {} 0 0 1", "numbers 1 0 0 {}"):
                self.refuse(NoText, row.format(word), (2, 7))
        for row in ("scale far", "shift far", "figures far", "move far 0 0 1", "kind 1 0 0 far", "numbers 1 far 0 1"):
            self.refuse(NoText, row)

    def test_no_spot(self):
        for word in ("0", "a", "far", "0:", ":0", "0:0:0", "1000:0", "-1000:0", "00:0", "-0:0", "01:0", "0:00", "0:2/4",
                     "0:a", "0:far", "+1:0", "0:-0", "1:1\n", "1:" + "1" + "0" * 60, "1.0:0"):
            for row in ("go {}", "road {}", "way {}", "meet {} 0:0", "meet 0:0 {}"):
                self.refuse(NoText, row.format(word), (3, 5))
        for word in ("301:0", "-301:0", "999:0", "-999:0", "0:1", "0:-1", "1:-1", "1:7", "1:50", "-1:1/11", "0:1/11",
                     "2:1/143", "-1:1", "0:" + SIXTY):
            for row in ("go {}", "road {}", "way {}", "meet {} 0:0", "meet 0:0 {}"):
                self.refuse(NoSpot, row.format(word))

    def test_the_edges_of_the_first_number(self):
        for p in PRIMES:
            desk = Desk(p)
            for k in (300, -300):
                self.assertEqual(desk.say(f"go {k}:0"), f"{k}:0")
            for k in (301, -301):
                check_refused(self, NoSpot, desk.say, f"go {k}:0")
            self.assertEqual(state(desk), ((-300, (0, 1)), 2))

    def test_a_spot_of_another_prime(self):
        for p in PRIMES:
            for other in PRIMES:
                desk = Desk(p)
                if p == other:
                    self.assertEqual(desk.say(f"go 0:1/{other}"), f"0:1/{other}")
                else:
                    check_refused(self, NoSpot, desk.say, f"go 0:1/{other}")

    def test_the_form_comes_first(self):
        for row in ("towards a 301", "towards a", "towards 2/4 01", "towards 1/0 -1", "go a 0:0", "go 0:1 0:0",
                    "meet a", "meet 0:1", "near a", "near 1/0 0 0", "move a b c", "move 0 0 0", "move 0 0 0 0 0",
                    "kind 0 0 0", "kind a 0 0 0 0", "scale 0 0", "scale a b", "undo 0", "undo undo", "figures a b",
                    "within a b", "road a b", "way 0:1 a", "go ", "go a ", "move a b c ", "near a  b"):
            self.refuse(NoRow, row)
        for p in PRIMES:
            for row in ("undo 1", " undo", "undo ", "undo  "):
                check_refused(self, NoRow, Desk(p).say, row)

    def test_words_are_looked_at_from_the_left(self):
        for row in ("meet a 0:1", "meet a 301:0", "meet a b", "meet 0 0:1"):
            self.refuse(NoText, row)
        for row in ("meet 0:1 a", "meet 301:0 a", "meet 0:1 0:1", "meet -301:0 0"):
            self.refuse(NoSpot, row)
        for row in ("meet 0:0 a", "near a a", "near 1/0 1/0"):
            self.refuse(NoText, row)

    def test_a_measure_of_nought(self):
        for word in ("move", "kind", "numbers"):
            for four in ("0 0 0 0", "1 1 1 1", "1 2 2 4", "0 1 0 1", "0 0 1 1", "1/2 1/3 3 2", "-1 1 1 -1",
                         f"{SIXTY} {SIXTY} 1 1"):
                self.refuse(NoTable, f"{word} {four}")
            for four in ("0 0 0 a", "a 0 0 0", "1 1 1 1/1", "0 0 2/4 0"):
                self.refuse(NoText, f"{word} {four}")

    def test_what_the_functions_refuse(self):
        self.refuse(NoFraction, "scale 0")
        for end in ("far", "0", "1/3", "-5", SIXTY):
            self.refuse(NoLine, f"near {end} {end}")
        self.refuse(TooMany, "within 7", (3, 5, 7))
        self.refuse(TooMany, "within 5", (3, 5, 7))
        self.refuse(TooMany, "within 4", (5, 7))
        self.refuse(TooMany, "within 3", (7,))
        self.refuse(TooMany, "figures 1/307")
        self.refuse(TooMany, "figures -5/301", (2, 3, 5))
        self.refuse(TooMany, "figures 1/" + "1" * 60)
        self.refuse(TooFar, row_of("kind", table_from(Fraction(1, 2 ** 199), 1, 1 - 2 ** 103, 2 ** 199)), (2,))

    def test_figures_at_the_edge(self):
        for p, edge, beyond in ((2, 299, 301), (3, 299, 301), (5, 299, 301), (7, 300, 302)):
            desk = Desk(p)
            for sunk in (1, p, p ** 5):
                self.assertTrue(desk.say(f"figures 1/{edge * sunk}"))
                check_refused(self, TooMany, desk.say, f"figures 1/{beyond * sunk}")

    def test_a_road_that_is_too_far(self):
        for p in PRIMES:
            desk = Desk(p)
            desk.say("go 300:0")
            for far, word in ((600, "-300:0"), (501, "-201:0")):
                check_refused(self, TooFar, desk.say, "road " + word)
                with self.assertRaises(TooFar) as caught:
                    desk.say("road " + word)
                self.assertEqual(caught.exception.far, far)
            self.assertEqual(state(desk), ((300, (0, 1)), 1))
            self.assertEqual(desk.say("undo"), "0:0")

    def test_nothing_to_undo(self):
        for p in PRIMES:
            check_refused(self, NothingDone, Desk(p).say, "undo")

    def test_behind_each_refused_row_the_desk_undoes_what_was_done_before(self):
        bad = (("go 0:1", NoSpot), ("go a", NoText), ("move 0 0 0 0", NoTable), ("move a 0 0 1", NoText),
               ("scale 0", NoFraction), ("scale a", NoText), ("shift a", NoText), ("flip 1", NoRow), ("", NoRow),
               ("undo 1", NoRow), ("near 0 0", NoLine), ("within 8", NoRow), ("figures 1/307", TooMany),
               ("towards far 301", NoRow), ("road 301:0", NoSpot), ("kind 1 1 1 1", NoTable))
        for p in PRIMES:
            desk = Desk(p)
            lay = []
            for row in CHANGES:
                lay.append(desk.lies())
                desk.say(row)
                for wrong, refusal in bad:
                    before = state(desk)
                    check_refused(self, refusal, desk.say, wrong)
                    self.assertEqual(state(desk), before)
            for spot in lay[::-1]:
                check_refused(self, NoFraction, desk.say, "scale 0")
                self.assertEqual(desk.say("undo"), spot_text_of(spot))
            check_refused(self, NothingDone, desk.say, "undo")


class TestGreatSpots(unittest.TestCase):
    """A spot may grow, row by row, beyond what can be written to the desk, and beyond what Python's own str writes."""

    def test_it_is_written_however_great_it_is(self):
        for p, deep in ((2, 2 ** 190), (7, 7 ** 70)):
            desk = Desk(p)
            lay = []
            for i in range(80):
                lay.append(desk.lies())
                desk.say("shift 1/3")
                lay.append(desk.lies())
                told = desk.say(f"scale {deep}")
            k, q = desk.lies()
            self.assertGreater(q[0], 10 ** 4300)
            self.assertEqual(told[:told.index(":") + 1], f"{k}:")
            self.assertEqual(self.read(told[told.index(":") + 1:]), q[0])
            for spot in lay[::-1]:
                desk.say("undo")
                self.assertEqual(desk.lies(), spot)

    def read(self, text):
        number = 0
        for start in range(0, len(text), 500):
            piece = text[start:start + 500]
            number = number * 10 ** len(piece) + int(piece)
        return number

    def test_it_is_asked_about(self):
        for p in PRIMES:
            desk = Desk(p)
            desk.say("go 300:0")
            for step in range(9):
                desk.say("shift 1/11")
                desk.say(f"scale 1/{p ** 60}")
            spot = desk.lies()
            self.assertGreater(spot[1][1], p ** 500)
            self.assertEqual(desk.say("ties"), " ".join(spot_text_of(tie) for tie in ties(p, spot)))
            self.assertEqual(desk.say("way 0:0"), str(way_by_parting(p, spot, FIRST)))
            self.assertEqual(desk.say("meet 0:0 1:0"), spot_text_of(meeting(p, spot, FIRST, (1, (0, 1)))))
            self.assertEqual(desk.say("towards far 1").split(" ")[0], spot_text_of(spot))
            check_refused(self, TooFar, desk.say, "road 0:0")
            self.assertEqual(desk.lies(), spot)


class TestAskedAgain(unittest.TestCase):
    def test_two_desks_told_the_same_answer_the_same(self):
        for p in PRIMES:
            one = Desk(p)
            other = Desk(p)
            for row in GOOD_ROWS * 2 + ("undo",) * 3 + GOOD_ROWS:
                self.assertEqual(one.say(row), other.say(row))
                self.assertEqual(state(one), state(other))

    def test_a_long_talk(self):
        """Each of some hundred rows, good and bad in turn, beside a plain account of what lies there."""
        for p in PRIMES:
            desk = Desk(p)
            lay = [FIRST]
            number = 1
            for i in range(400):
                number = (number * 1103515245 + 12345) % 2 ** 31
                pick = number // 65536 % 9
                if pick == 0:
                    spot = readable_spots(p)[number // 7 % len(readable_spots(p))]
                    row = "go " + spot_text_of(spot)
                    lay.append(spot)
                elif pick == 1:
                    table = some_tables(p)[number // 11 % 19]
                    row = row_of("move", table)
                    lay.append(moved(p, table, lay[-1]))
                elif pick in (2, 3):
                    a = pair(some_numbers(p)[number // 13 % 5])
                    row = ("scale " if pick == 2 else "shift ") + text_of(a)
                    lay.append((Scale(a) if pick == 2 else Shift(a)).done(p, lay[-1]))
                elif pick == 4:
                    row = "flip"
                    lay.append(Flip().done(p, lay[-1]))
                elif pick in (5, 6):
                    row = "undo"
                    if len(lay) == 1:
                        check_refused(self, NothingDone, desk.say, row)
                        continue
                    lay.pop()
                else:
                    wrong = ("scale 0", "go 0:1", "move 1 1 1 1", "ties 1", "near far far")[i % 5]
                    self.assertRaises(TreeError, asked(desk, wrong))
                    row = None
                if row is not None:
                    self.assertEqual(desk.say(row), spot_text_of(lay[-1]))
                self.assertEqual(state(desk), (lay[-1], len(lay) - 1))

    def test_the_one_table_moves_nothing(self):
        for p in PRIMES:
            desk = Desk(p)
            for spot in readable_spots(p)[::4]:
                desk.say("go " + spot_text_of(spot))
                self.assertEqual(desk.say(row_of("move", one_table())), spot_text_of(spot))


if __name__ == "__main__":
    unittest.main()

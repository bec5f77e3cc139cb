import unittest
from fractions import Fraction

from helper import PRIMES, SIXTY_FIGURES, WHOLES, check_refused, is_fraction, is_whole, pair
from primetree.errors import NoSpot, NoText
from primetree.fractions import rest_by
from primetree.texts import end_text, fraction_text, read_end, read_fraction, read_spot, spot_text

SIXTY = "9" * 60
SIXTY_ONE = "1" + "0" * 60

GOOD_FRACTIONS = (
    ("0", (0, 1)), ("1", (1, 1)), ("-1", (-1, 1)), ("10", (10, 1)), ("-105", (-105, 1)), ("1/2", (1, 2)),
    ("-1/2", (-1, 2)), ("15/4", (15, 4)), ("-7/10", (-7, 10)), ("100/3", (100, 3)), ("1/100", (1, 100)),
    (SIXTY, (SIXTY_FIGURES, 1)), ("-" + SIXTY, (-SIXTY_FIGURES, 1)), ("1/" + SIXTY, (1, SIXTY_FIGURES)),
    ("-2/" + SIXTY, (-2, SIXTY_FIGURES)), (SIXTY + "/2", (SIXTY_FIGURES, 2)),
    (SIXTY[:-1] + "8/" + SIXTY, (SIXTY_FIGURES - 1, SIXTY_FIGURES)),
    ("1" + "0" * 59 + "/3", (10 ** 59, 3)),
)

BAD_NUMBERS = (
    "", "-", "--1", "+1", "01", "00", "-0", "-00", "-01", "007", " 1", "1 ", "1\n", "\n1", "1\t", "- 1", "1-", "-1-",
    "1_0", "1.0", "1.", ".5", "1e3", "0x1", "1,0", "a", "A", "one", "None", "\u0663", "\u00b2", "\uff11", "1\u0663",
    "\u22121", "1\x00", "1 0", "inf", "nan", SIXTY_ONE, "-" + SIXTY_ONE, "0" * 61, "0" + SIXTY,
)

BAD_FRACTIONS = BAD_NUMBERS + (
    "/", "1/", "/2", "-/2", "1//2", "1/2/3", "1/2/", "/1/2", "1 /2", "1/ 2", "1 / 2", " 1/2", "1/2 ", "1/2\n",
    "1/-2", "-1/-2", "1/+2", "1/02", "01/2", "-01/2", "1/00", "1/2.0", "1/2_0", "1/\u0663", "1/a", "1\\2", "1:2",
    "1/0", "0/0", "-1/0", "1/1", "0/1", "-3/1", "0/2", "-0/2", "0/" + SIXTY, "2/4", "-2/4", "6/3", "3/3", "15/10",
    "1/" + SIXTY_ONE, "-1/" + SIXTY_ONE, SIXTY_ONE + "/3", "-" + SIXTY_ONE + "/3", SIXTY + "/" + SIXTY, SIXTY + "/3",
    "9" * 900, "-" + "1" * 900, "1/" + "3" * 900,
)


class TestFractionText(unittest.TestCase):
    def test_written(self):
        for text, a in GOOD_FRACTIONS:
            self.assertEqual(fraction_text(a), text)

    def test_more_than_sixty_figures_are_written(self):
        self.assertEqual(fraction_text((10 ** 60, 1)), SIXTY_ONE)
        self.assertEqual(fraction_text((-1, 10 ** 1999)), "-1/1" + "0" * 1999)
        self.assertEqual(fraction_text((10 ** 1999, 3)), "1" + "0" * 1999 + "/3")

    def test_more_figures_than_python_writes_by_itself(self):
        for count in (999, 1000, 1001, 2000, 4299, 4300, 4301, 5000, 9001):
            self.assertEqual(fraction_text((10 ** count, 1)), "1" + "0" * count)
            self.assertEqual(fraction_text((-(10 ** count), 1)), "-1" + "0" * count)
            self.assertEqual(fraction_text((10 ** count - 1, 1)), "9" * count)
            self.assertEqual(fraction_text((-1, 10 ** count + 7)), "-1/1" + "0" * (count - 1) + "7")
            self.assertEqual(fraction_text((10 ** count, 10 ** count + 1)), "1" + "0" * count + "/1" + "0" * (count - 1)
                             + "1")

    def test_by_name(self):
        self.assertEqual(fraction_text(a=(1, 2)), "1/2")


class TestReadFraction(unittest.TestCase):
    def test_read(self):
        for text, a in GOOD_FRACTIONS:
            told = read_fraction(text)
            self.assertEqual(told, a)
            self.assertTrue(is_fraction(told), text)

    def test_what_is_written_is_read_again(self):
        for top in WHOLES:
            for bottom in WHOLES:
                if bottom != 0:
                    a = pair(Fraction(top, bottom))
                    self.assertEqual(read_fraction(fraction_text(a)), a)

    def test_any_other_text_is_refused(self):
        for text in BAD_FRACTIONS + ("far", "0:0", "2:15/4"):
            check_refused(self, NoText, read_fraction, text)

    def test_what_was_told_with_more_figures_is_refused(self):
        for a in ((10 ** 60, 1), (-(10 ** 60), 1), (1, 10 ** 60), (10 ** 60, 3), (10 ** 300, 7)):
            check_refused(self, NoText, read_fraction, fraction_text(a))

    def test_each_sign_alone_and_behind_a_figure(self):
        for code in list(range(0, 256)) + [0x660, 0x966, 0xff10, 0x1d7ce]:
            sign = chr(code)
            if sign not in "0123456789":
                check_refused(self, NoText, read_fraction, sign)
                check_refused(self, NoText, read_fraction, "1" + sign)
                check_refused(self, NoText, read_fraction, "1/3" + sign)

    def test_by_name(self):
        self.assertEqual(read_fraction(text="1/2"), (1, 2))


class TestSpotText(unittest.TestCase):
    def test_written(self):
        self.assertEqual(spot_text((2, (15, 4))), "2:15/4")
        self.assertEqual(spot_text((-1, (0, 1))), "-1:0")
        self.assertEqual(spot_text((0, (0, 1))), "0:0")
        self.assertEqual(spot_text((300, (1, 2))), "300:1/2")
        self.assertEqual(spot_text((-300, (0, 1))), "-300:0")

    def test_more_than_sixty_figures_are_written(self):
        self.assertEqual(spot_text((300, (2 ** 299, 1))), "300:" + str(2 ** 299))
        self.assertEqual(spot_text((-299, (1, 7 ** 300))), "-299:1/" + str(7 ** 300))

    def test_by_name(self):
        self.assertEqual(spot_text(spot=(2, (3, 1))), "2:3")


class TestReadSpot(unittest.TestCase):
    def test_read(self):
        self.assertEqual(read_spot(2, "2:15/4"), (2, (15, 4)))
        self.assertEqual(read_spot(2, "-1:0"), (-1, (0, 1)))
        self.assertEqual(read_spot(2, "0:0"), (0, (0, 1)))
        self.assertEqual(read_spot(2, "0:1/2"), (0, (1, 2)))
        self.assertEqual(read_spot(2, "-1:1/4"), (-1, (1, 4)))
        self.assertEqual(read_spot(3, "1:2"), (1, (2, 1)))
        self.assertEqual(read_spot(5, "2:24"), (2, (24, 1)))
        self.assertEqual(read_spot(7, "-2:6/343"), (-2, (6, 343)))
        self.assertTrue(is_whole(read_spot(2, "2:15/4")[0]))
        self.assertIs(type(read_spot(2, "2:15/4")), tuple)

    def test_what_is_written_is_read_again(self):
        for p in PRIMES:
            for k in (-60, -9, -2, -1, 0, 1, 2, 3, 20, 60):
                for number in (Fraction(0), Fraction(1), Fraction(-1), Fraction(1, 11), Fraction(-5, p ** 3)):
                    spot = (k, rest_by(p, k, pair(number)))
                    self.assertEqual(read_spot(p, spot_text(spot)), spot)

    def test_first_numbers_up_to_300_off_nought(self):
        for p in PRIMES:
            for k in range(-300, 301):
                self.assertEqual(read_spot(p, f"{k}:0"), (k, (0, 1)))
            self.assertEqual(read_spot(p, "300:1"), (300, (1, 1)))
            self.assertEqual(read_spot(p, "300:" + SIXTY), (300, (SIXTY_FIGURES, 1)))

    def test_first_numbers_from_301_to_999_are_no_spots(self):
        for p in PRIMES:
            for k in (301, 302, 500, 998, 999):
                for text in (f"{k}:0", f"-{k}:0", f"{k}:1", f"-{k}:1", f"{k}:1/{p}", f"{k}:1/11"):
                    check_refused(self, NoSpot, read_spot, p, text)

    def test_first_numbers_of_more_figures_are_no_text(self):
        for k in ("1000", "-1000", "1001", "-1001", "9999", "10000", SIXTY, "-" + SIXTY):
            for behind in ("0", "1", "1/2", "1/3", "2/4"):
                check_refused(self, NoText, read_spot, 2, f"{k}:{behind}")

    def test_what_is_no_spot(self):
        for p, text in ((2, "2:4"), (2, "2:5"), (2, "2:-1"), (2, "2:1/3"), (2, "0:1"), (2, "-1:1/2"), (2, "-1:1"),
                        (2, "0:-1/2"), (2, "0:3/2"), (2, "2:17/4"), (2, "3:1/6"), (3, "0:1/2"), (3, "1:3"),
                        (3, "1:-1"), (3, "2:15/4"), (5, "1:1/10"), (7, "1:1/2"), (7, "-300:1"), (2, "-300:1/2"),
                        (2, "0:" + SIXTY), (2, "2:1/" + SIXTY), (2, "199:" + SIXTY)):
            check_refused(self, NoSpot, read_spot, p, text)

    def test_every_small_one_is_a_spot_or_none(self):
        for p in PRIMES:
            for k in range(-2, 4):
                for number in {Fraction(top, bottom) for top in range(-2, 30) for bottom in (1, 2, 3, 4, 5, 7, 9)}:
                    q = pair(number)
                    text = f"{k}:{number}"
                    whole = number * p ** 3
                    if 0 <= number < Fraction(p) ** k and whole.denominator == 1:
                        self.assertEqual(read_spot(p, text), (k, q))
                    else:
                        check_refused(self, NoSpot, read_spot, p, text)

    def test_any_other_text_is_refused(self):
        for text in BAD_NUMBERS:
            check_refused(self, NoText, read_spot, 2, text + ":0")
        for text in BAD_FRACTIONS + ("far", ":", ":0", "0:0", "1:"):
            check_refused(self, NoText, read_spot, 2, "2:" + text)
            check_refused(self, NoText, read_spot, 2, "-1:" + text)
        for text in ("", ":", "::", "0", "2", "15/4", "0;0", "0 :0", "0: 0", " 0:0", "0:0 ", "0:0\n", "0:0:0", "1/2:0",
                     "0/0", "far", "far:0", "0:far", "(0, 0)", "+1:0", "1:+0", "00:0", "-0:0", "01:0", "-01:0",
                     "001:0", "0:00", "0:-0", "0:0/1", "0:1/1", "0:1/0", "0:2/4", "-:0", "\u0663:0", "2:\u0663"):
            check_refused(self, NoText, read_spot, 2, text)

    def test_ill_written_comes_ahead_of_no_spot(self):
        for k in ("301", "-301", "999", "-999"):
            for text in BAD_FRACTIONS:
                check_refused(self, NoText, read_spot, 2, k + ":" + text)

    def test_what_was_told_with_more_figures_is_refused(self):
        for p, spot in ((2, (300, (2 ** 299, 1))), (2, (-299, (1, 2 ** 300))), (7, (100, (7 ** 99, 1))),
                        (5, (300, (10 ** 60, 1)))):
            check_refused(self, NoText, read_spot, p, spot_text(spot))

    def test_by_name(self):
        self.assertEqual(read_spot(p=2, text="2:3"), (2, (3, 1)))


class TestEnds(unittest.TestCase):
    def test_written(self):
        self.assertEqual(end_text("far"), "far")
        for text, a in GOOD_FRACTIONS:
            self.assertEqual(end_text(a), text)

    def test_read(self):
        self.assertEqual(read_end("far"), "far")
        for text, a in GOOD_FRACTIONS:
            told = read_end(text)
            self.assertEqual(told, a)
            self.assertTrue(is_fraction(told), text)

    def test_any_other_text_is_refused(self):
        for text in BAD_FRACTIONS + ("Far", "FAR", "fa", "farr", " far", "far ", "far\n", "-far", "far/2", "1/far",
                                     "0:0", "2:15/4"):
            check_refused(self, NoText, read_end, text)

    def test_what_was_told_with_more_figures_is_refused(self):
        for a in ((10 ** 60, 1), (1, 10 ** 60)):
            check_refused(self, NoText, read_end, end_text(a))

    def test_by_name(self):
        self.assertEqual(end_text(end=(1, 2)), "1/2")
        self.assertEqual(read_end(text="1/2"), (1, 2))


if __name__ == "__main__":
    unittest.main()

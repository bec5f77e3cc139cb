"""How fractions, spots and ends are written, and read again."""

from primetree.errors import NoSpot, NoText
from primetree.fractions import fraction
from primetree.grids import is_spot
from primetree.wholes import raised, shared

FAR = "far"
FIGURES = "0123456789"
MOST_FIGURES = 60
MOST_FIRST_FIGURES = 3
FURTHEST_FIRST = 300
PIECE_FIGURES = 1000


def fraction_text(a):
    top = whole_text(a[0])
    if a[1] == 1:
        return top
    bottom = whole_text(a[1])
    return f"{top}/{bottom}"


# Python's own str refuses numbers of more than some thousand figures, and a spot may grow so great, row by row.
def whole_text(number):
    size = raised(10, PIECE_FIGURES)
    left = abs(number)
    pieces = []
    while left >= size:
        pieces.append(str(left % size).zfill(PIECE_FIGURES))
        left = left // size
    pieces.append(str(left))
    if number < 0:
        pieces.append("-")
    return "".join(reversed(pieces))


def spot_text(spot):
    first = spot[0]
    behind = fraction_text(spot[1])
    return f"{first}:{behind}"


def end_text(end):
    if end == FAR:
        return FAR
    return fraction_text(end)


# Python's own int takes far more than is to be read: blanks, plus signs, underscores, figures of other scripts.
def is_figures(text, most):
    if text == "" or len(text) > most:
        return False
    if text[0] == "0" and text != "0":
        return False
    return all([sign in FIGURES for sign in text])


def read_figures(text, most):
    if not is_figures(text, most):
        raise NoText(f"{text!r} is no whole number of at most {most} figures")
    return int(text)


def read_whole(text, most):
    if not text.startswith("-"):
        return read_figures(text, most)
    number = read_figures(text[1:], most)
    if number == 0:
        raise NoText("nought is written without a sign")
    return -number


def read_fraction(text):
    parts = text.partition("/")
    top = read_whole(parts[0], MOST_FIGURES)
    if parts[1] == "":
        return fraction(top)
    bottom = read_figures(parts[2], MOST_FIGURES)
    if bottom < 2 or shared(top, bottom) != 1:
        raise NoText(f"{text!r} is not in lowest terms, or has a bottom of 0 or 1")
    return (top, bottom)


def read_spot(p, text):
    # Without a colon the part behind it is empty, which is no fraction's text.
    parts = text.partition(":")
    first = read_whole(parts[0], MOST_FIRST_FIGURES)
    spot = (first, read_fraction(parts[2]))
    if abs(first) > FURTHEST_FIRST or not is_spot(p, spot):
        raise NoSpot(f"{text!r} is no spot of {p}, or its first number is too far from nought")
    return spot


def read_end(text):
    if text == FAR:
        return FAR
    return read_fraction(text)

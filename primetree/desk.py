"""A desk on which a spot lies: it is told rows of text and answers each with a text."""

from primetree.deeds import Flip, Scale, Shift
from primetree.ends import road_to
from primetree.errors import NoRow, NothingDone
from primetree.figures import figures
from primetree.grids import FIRST, two_numbers, way
from primetree.kinds import SLIDES, kind
from primetree.lines import nearest
from primetree.moves import moved
from primetree.roads import meeting, road
from primetree.tables import table_of
from primetree.texts import is_figures, read_end, read_fraction, read_spot, spot_text
from primetree.ties import ties, within

# What stands behind the first word of each row.
FORMS = {
    "go": "SPOT",
    "move": "A B C D",
    "scale": "F",
    "shift": "F",
    "flip": "",
    "undo": "",
    "ties": "",
    "road": "SPOT",
    "towards": "END STEPS",
    "way": "SPOT",
    "meet": "SPOT SPOT",
    "near": "END END",
    "within": "REACH",
    "kind": "A B C D",
    "numbers": "A B C D",
    "figures": "F",
}
MOST = {"STEPS": 300, "REACH": 7}
MOST_NUMBER_FIGURES = 3


def form_of(words):
    if "" in words or words[0] not in FORMS:
        raise NoRow("no row begins so, or its words are not parted by one blank")
    form = FORMS[words[0]].split()
    if len(words) != len(form) + 1:
        raise NoRow("the row has words more or fewer")
    for i in range(len(form)):
        if form[i] in MOST and not is_number_to(MOST[form[i]], words[i + 1]):
            raise NoRow("a whole number of the row is none, or too great")
    return form


def is_number_to(most, word):
    return is_figures(word, MOST_NUMBER_FIGURES) and int(word) <= most


def read_word(p, name, word):
    if name in MOST:
        return int(word)
    if name == "SPOT":
        return read_spot(p, word)
    if name == "END":
        return read_end(word)
    return read_fraction(word)


def table_from(read):
    return table_of(read[0], read[1], read[2], read[3])


def gone(p, spot, read):
    return read[0]


def moved_by(p, spot, read):
    return moved(p, table_from(read), spot)


def scaled(p, spot, read):
    return Scale(read[0]).done(p, spot)


def shifted(p, spot, read):
    return Shift(read[0]).done(p, spot)


def flipped(p, spot, read):
    return Flip().done(p, spot)


def spots_text(spots):
    return " ".join([spot_text(spot) for spot in spots])


def ties_text(p, spot, read):
    return spots_text(ties(p, spot))


def road_text(p, spot, read):
    return spots_text(road(p, spot, read[0]))


def towards_text(p, spot, read):
    return spots_text(road_to(p, spot, read[0], read[1]))


def way_text(p, spot, read):
    return str(way(p, spot, read[0]))


def meet_text(p, spot, read):
    return spot_text(meeting(p, spot, read[0], read[1]))


def near_text(p, spot, read):
    told = nearest(p, spot, read[0], read[1])
    there = spot_text(told[0])
    far = told[1]
    return f"{there} {far}"


def within_text(p, spot, read):
    return str(len(within(p, spot, read[0])))


def kind_text(p, spot, read):
    told = kind(p, table_from(read))
    word = told[0]
    if word != SLIDES:
        return word
    steps = told[1]
    return f"{word} {steps}"


def numbers_text(p, spot, read):
    numbers = two_numbers(p, table_from(read))
    low = numbers[0]
    high = numbers[1]
    return f"{low} {high}"


def figures_text(p, spot, read):
    told = figures(p, read[0])
    first = told[0]
    head = row_text(told[1])
    again = row_text(told[2])
    return f"{first} {head} {again}"


def row_text(row):
    if row == []:
        return "-"
    return "".join([str(figure) for figure in row])


# The rows that lay a spot there, but undo; each tells the spot.
CHANGES = {"go": gone, "move": moved_by, "scale": scaled, "shift": shifted, "flip": flipped}

# The rows that only ask; each tells the answer.
QUESTIONS = {
    "ties": ties_text,
    "road": road_text,
    "towards": towards_text,
    "way": way_text,
    "meet": meet_text,
    "near": near_text,
    "within": within_text,
    "kind": kind_text,
    "numbers": numbers_text,
    "figures": figures_text,
}


class Desk:
    def __init__(self, p):
        self.prime = p
        self.spot = FIRST
        self.earlier = []

    def say(self, row):
        words = row.split(" ")
        form = form_of(words)
        read = [read_word(self.prime, form[i], words[i + 1]) for i in range(len(form))]
        first = words[0]
        if first == "undo":
            return self.undo()
        if first in CHANGES:
            change = CHANGES[first]
            return self.lay(change(self.prime, self.spot, read))
        question = QUESTIONS[first]
        return question(self.prime, self.spot, read)

    def lies(self):
        return self.spot

    def steps(self):
        return len(self.earlier)

    def lay(self, spot):
        self.earlier.append(self.spot)
        self.spot = spot
        return spot_text(spot)

    def undo(self):
        if self.earlier == []:
            raise NothingDone("nothing is left to undo")
        self.spot = self.earlier.pop()
        return spot_text(self.spot)

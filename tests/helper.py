"""What the tests share: numbers to try, Python's own fractions to compare with, and how a refusal is looked at."""

from fractions import Fraction
from itertools import product as each

from primetree import errors

PRIMES = (2, 3, 5, 7)
NAMES_OF_REFUSALS = ("NoPrime", "NoFraction", "NoText", "NoSpot", "NoTable", "TooMany", "NoLine", "NoRow",
                     "NothingDone", "TooFar")
REFUSALS = tuple(getattr(errors, name) for name in NAMES_OF_REFUSALS)

SIXTY_FIGURES = int("9" * 60)
WHOLES = (0, 1, -1, 2, -2, 3, 4, 5, -6, 7, 8, 9, -10, 12, 25, 27, -35, 36, 49, -64, 81, 97, 125, -210, 343, 1024,
          -(3 ** 40), 2 ** 100, 5 ** 60, -(7 ** 50), 6 ** 70, 10 ** 59, -(10 ** 59) - 1, SIXTY_FIGURES, -SIXTY_FIGURES)


def pair(number):
    return (number.numerator, number.denominator)


def number_of(a):
    return Fraction(a[0], a[1])


def power_by_count(p, n):
    count = 0
    while n % p ** (count + 1) == 0:
        count += 1
    return count


def power_of_number(p, number):
    return power_by_count(p, number.numerator) - power_by_count(p, number.denominator)


def is_whole(thing):
    return type(thing) is int


def is_fraction(a):
    if type(a) is not tuple or len(a) != 2 or not is_whole(a[0]) or not is_whole(a[1]):
        return False
    return a[1] >= 1 and pair(Fraction(a[0], a[1])) == a


def check_refused(case, refusal, asked, *handed):
    """The call is refused with just this class, which ValueError and TreeError take and no other refusal does."""
    with case.assertRaises(refusal, msg=repr(handed)) as caught:
        asked(*handed)
    told = caught.exception
    case.assertIsInstance(told, ValueError)
    case.assertIsInstance(told, errors.TreeError)
    takers = [other for other in REFUSALS if isinstance(told, other)]
    case.assertEqual(takers, [refusal], repr(handed))


def numbers_of(table):
    return tuple(number_of(a) for a in table)


def table_from(*numbers):
    return tuple(pair(Fraction(number)) for number in numbers)


def product_by_numbers(one, other):
    a, b, c, d = one
    e, f, g, h = other
    return (a * e + b * g, a * f + b * h, c * e + d * g, c * f + d * h)


def turned_by_numbers(table):
    a, b, c, d = table
    size = a * d - b * c
    return (d / size, -b / size, -c / size, a / size)


def is_table(table):
    if type(table) is not tuple or len(table) != 4 or not all(is_fraction(a) for a in table):
        return False
    a, b, c, d = numbers_of(table)
    return a * d != b * c


def is_spot_by_words(p, spot):
    """A spot looked at without the program's own rests: from nought on, less than p ** k, the bottom a power of p."""
    if type(spot) is not tuple or len(spot) != 2 or not is_whole(spot[0]) or not is_fraction(spot[1]):
        return False
    bottom = spot[1][1]
    return bottom == p ** power_by_count(p, bottom) and 0 <= number_of(spot[1]) < Fraction(p) ** spot[0]


def spot_by_number(p, k, number):
    """The spot with the first number k whose fraction is alike to a number with a power of p below."""
    return (k, pair(Fraction(number) % Fraction(p) ** k))


def some_spots(p):
    """Spots near the first one and far from it, of each sign of the first number, with noughts and long fractions."""
    near = {spot_by_number(p, k, Fraction(top, p ** sunk)) for k in (-2, -1, 0, 1, 3) for top in (0, 1, p + 1, -1)
            for sunk in (0, 1, 3)}
    far = {spot_by_number(p, k, number) for k in (-300, -299, -40, 40, 299, 300)
           for number in (0, Fraction(1, p ** 300), -Fraction(1, p ** 299), p ** 299, Fraction(p ** 60 + 1, p ** 31))}
    return sorted(near) + sorted(far)


def way_by_parting(p, one, other):
    """How far two spots are apart, told by where the two roads up come together."""
    turn = min(one[0], other[0])
    if one[1] != other[1]:
        turn = min(turn, power_of_number(p, number_of(one[1]) - number_of(other[1])))
    return one[0] + other[0] - 2 * turn


def tables_for(p):
    """Tables with noughts in every place that lets them in, and with powers of p above and below."""
    numbers = (Fraction(0), Fraction(1), Fraction(-1), Fraction(p), Fraction(-11, p), Fraction(p * p, 13))
    return [table_from(*four) for four in each(numbers, repeat=4) if four[0] * four[3] != four[1] * four[2]]


def great_tables(p):
    return [table_from(SIXTY_FIGURES, Fraction(1, p ** 70), -SIXTY_FIGURES, Fraction(p ** 70, 11 ** 50)),
            table_from(p ** 70, 0, 0, Fraction(1, p ** 70)), table_from(0, p ** 70, Fraction(1, p ** 70), 0),
            table_from(1, 0, p ** 70, p ** 70), table_from(0, 1, SIXTY_FIGURES, Fraction(-1, SIXTY_FIGURES)),
            table_from(10 ** 59 + 1, 10 ** 59, 10 ** 59, 10 ** 59 - 1)]


def some_tables(p):
    return tables_for(p)[::60] + great_tables(p)


def some_numbers(p):
    """Numbers but nought, with powers of p above and below, with none, and with other bottoms."""
    return [Fraction(1), Fraction(-1), Fraction(p), Fraction(1, p), Fraction(-11, 13), Fraction(p ** 3, 11),
            Fraction(-13, p ** 4), Fraction(p ** 70), Fraction(1, p ** 70), Fraction(SIXTY_FIGURES, 10 ** 59),
            Fraction(-1, SIXTY_FIGURES)]


def powers_in(p, numbers):
    return [power_of_number(p, number) for number in numbers if number != 0]


def have_one_grid(p, one, other):
    """Whether the one table's pairs, stretched, are the other one's: each grid's pairs reckoned by the other table."""
    turned = product_by_numbers(turned_by_numbers(numbers_of(one)), numbers_of(other))
    a, b, c, d = turned
    return 2 * min(powers_in(p, turned)) == power_of_number(p, a * d - b * c)


def rest_by_words(p, k, number):
    """The rest of a number by p ** k, reckoned with Python's own powers."""
    sunk = power_by_count(p, number.denominator)
    size = p ** max(k + sunk, 0)
    return Fraction(number.numerator * pow(number.denominator // p ** sunk, -1, size) % size, p ** sunk)


def led_by_numbers(table, end):
    """Where a table of numbers leads an end, a number or None for far."""
    a, b, c, d = table
    upper, lower = (a, c) if end is None else (a * end + b, c * end + d)
    return None if lower == 0 else upper / lower


def end_from(number):
    return "far" if number is None else pair(Fraction(number))


def numbers_for(p):
    """Ends as numbers, far as None."""
    return [None, Fraction(0)] + some_numbers(p)


def ends_for(p):
    return [end_from(number) for number in numbers_for(p)]


def next_by_words(p, spot, end):
    k = spot[0]
    q = number_of(spot[1])
    if end != "far":
        x = number_of(end)
        if x == q or power_of_number(p, x - q) >= k:
            return (k + 1, pair(rest_by_words(p, k + 1, x)))
    return (k - 1, pair(rest_by_words(p, k - 1, q)))


def road_by_words(p, spot, end, steps):
    told = [spot]
    for step in range(steps):
        told.append(next_by_words(p, told[-1], end))
    return told

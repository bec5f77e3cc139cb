"""What the tests share: numbers to try, Python's own fractions to compare with, and how a refusal is looked at."""

from fractions import Fraction

from primetree import errors

PRIMES = (2, 3, 5, 7)
NAMES_OF_REFUSALS = ("NoPrime", "NoFraction", "NoText", "NoSpot", "NoTable", "TooMany", "NoLine", "NoRow",
                     "NothingDone", "TooFar")
REFUSALS = tuple(getattr(errors, name) for name in NAMES_OF_REFUSALS)

SIXTY_FIGURES = int("9" * 60)
WHOLES = (0, 1, -1, 2, -2, 3, 4, 5, -6, 7, 8, 9, -10, 12, 25, 27, -35, 36, 49, -64, 81, 97, 125, -210, 343, 1024,
          -(3 ** 40), 2 ** 100, 5 ** 60, -(7 ** 50), 6 ** 70, 10 ** 59, -(10 ** 59) - 1, SIXTY_FIGURES, -SIXTY_FIGURES)


def pair(number):
    return (number.numerator, number.denominator)


def number_of(a):
    return Fraction(a[0], a[1])


def power_by_count(p, n):
    count = 0
    while n % p ** (count + 1) == 0:
        count += 1
    return count


def power_of_number(p, number):
    return power_by_count(p, number.numerator) - power_by_count(p, number.denominator)


def is_whole(thing):
    return type(thing) is int


def is_fraction(a):
    if type(a) is not tuple or len(a) != 2 or not is_whole(a[0]) or not is_whole(a[1]):
        return False
    return a[1] >= 1 and pair(Fraction(a[0], a[1])) == a


def check_refused(case, refusal, asked, *handed):
    """The call is refused with just this class, which ValueError and TreeError take and no other refusal does."""
    with case.assertRaises(refusal, msg=repr(handed)) as caught:
        asked(*handed)
    told = caught.exception
    case.assertIsInstance(told, ValueError)
    case.assertIsInstance(told, errors.TreeError)
    takers = [other for other in REFUSALS if isinstance(told, other)]
    case.assertEqual(takers, [refusal], repr(handed))

"""Whole numbers: primes, shared numbers, powers, and the number over another one by a power of a prime."""

from primetree.errors import NoPrime

PRIMES = (2, 3, 5, 7)


def is_whole(thing):
    return isinstance(thing, int) and not isinstance(thing, bool)


def prime_of(number):
    if not is_whole(number) or number not in PRIMES:
        raise NoPrime("the prime is to be 2, 3, 5 or 7")
    return number


def shared(one, other):
    while other != 0:
        left = one % other
        one = other
        other = left
    return abs(one)


def power_of(p, n):
    if n == 0:
        return None
    power = 0
    while n % p == 0:
        n = n // p
        power = power + 1
    return power


# p ** k as a whole number, k from 0 on; by squares, as k comes to some thousands in what was told and is handed in.
def raised(p, k):
    product = 1
    square = p
    while k > 0:
        if k % 2 == 1:
            product = product * square
        square = square * square
        k = k // 2
    return product


def over_by(p, n, k):
    if k == 0:
        return 0
    modulus = raised(p, k)
    answer = over_by_prime(p, n)
    # Where n * answer is 1 + e, the new product is 1 - e * e: so each round doubles the power of p in what is off.
    settled = 1
    while settled < k:
        answer = answer * (2 - n * answer) % modulus
        settled = 2 * settled
    return answer


def over_by_prime(p, n):
    # The bound ends the walk also where p divides n, of which nothing is promised.
    answer = 1
    while answer < p - 1 and n * answer % p != 1:
        answer = answer + 1
    return answer

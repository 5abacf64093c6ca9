"""Zeros of rows: whether there are real ones from one fraction to another one, and those that are fractions.

A stretch of a row, from one fraction to another one, is the row of whole numbers that has
at t, from 0 to 1, the worth that the row has so far on the way from the one to the other
one, times some number above 0. There may be noughts at its end.
"""

from allhelms.ratios import ratio
from allhelms.sums import cleared, primitive, whole_shared, whole_split


def slope(numbers):
    """The row of the slope of a row of whole numbers."""
    return [at * number for at, number in enumerate(numbers)][1:]


def plain_part(numbers):
    """A row of whole numbers, not all 0, with the same zeros, each of them once."""
    first = primitive(numbers)
    if len(first) == 1:
        return first
    return primitive(whole_split(first, whole_shared(first, primitive(slope(first))))[0])


def shifted(numbers):
    """The row of whole numbers that has at t the worth that another one has at t + 1."""
    told = list(numbers)
    for end in range(len(told) - 1):
        for at in reversed(range(end, len(told) - 1)):
            told[at] += told[at + 1]
    return told


def stretch_of(numbers, low, high):
    """The stretch of a row of whole numbers from low to high."""
    start, under = low[0] * high[1], low[1] * high[1]
    width = high[0] * low[1] - start
    told, power = [], 1
    for number in reversed(numbers):
        told = [start * x + width * y for x, y in zip(told + [0], [0] + told)]
        told[0] += number * power
        power = power * under
    return told


def halves(stretch):
    """The stretches of the first and of the second half of the way."""
    last = len(stretch) - 1
    first = [number << (last - at) for at, number in enumerate(stretch)]
    return first, shifted(first)


def may_turn(stretch):
    """Whether there may be a zero between the ends; if not, there is none (Descartes)."""
    signs = [number > 0 for number in shifted(stretch[::-1]) if number != 0]
    return any([signs[at] != signs[at - 1] for at in range(1, len(signs))])


def is_hit(stretch):
    """Whether there is a zero for sure: at an end, or between ends of different signs."""
    first, last = stretch[0], sum(stretch)
    return first == 0 or last == 0 or (first > 0) != (last > 0)


def is_free(stretch):
    """Whether there is no zero for sure, the ends let in."""
    return not is_hit(stretch) and not may_turn(stretch)


def has_zero(row, low, high):
    """Whether a row, other than (), has a zero from low to high, both let in."""
    left = [stretch_of(plain_part(cleared(row)[0]), low, high)]
    while left != []:
        stretch = left.pop()
        if is_hit(stretch):
            return True
        # As no zero comes twice, short stretches are hit or free (Vincent).
        if may_turn(stretch):
            first, second = halves(stretch)
            left.append(second)
            left.append(first)
    return False


def is_zero(numbers, x):
    """Whether a row of whole numbers is 0 at a fraction."""
    worth, power = 0, 1
    for number in reversed(numbers):
        worth = worth * x[0] + number * power
        power = power * x[1]
    return worth == 0


def worth_modulo(numbers, at, modulus):
    """The worth of a row of whole numbers at a whole number, but for multiples of the modulus."""
    worth = 0
    for number in reversed(numbers):
        worth = (worth * at + number) % modulus
    return worth


def is_prime(number):
    """Whether a whole number above 1 is a prime."""
    by = 2
    while by * by <= number:
        if number % by == 0:
            return False
        by += 1
    return True


def zeros_modulo(numbers, prime):
    """The zeros of a row of whole numbers but for multiples of a prime.

    None if the last number or the slope at a zero is such a multiple: these zeros could not be lifted.
    """
    if numbers[-1] % prime == 0:
        return None
    found = [at for at in range(prime) if worth_modulo(numbers, at, prime) == 0]
    steep = [at for at in found if worth_modulo(slope(numbers), at, prime) != 0]
    return found if steep == found else None


def fit_prime(numbers):
    """The least prime but for whose multiples all zeros are simple; each zero of the row is one once."""
    prime = 2
    while not is_prime(prime) or zeros_modulo(numbers, prime) is None:
        prime += 1
    return prime


def lifted(numbers, zero, prime, most):
    """A zero but for multiples of a prime as one but for those of a power of it above `most` (Hensel)."""
    turn = slope(numbers)
    back = 1
    while back * worth_modulo(turn, zero, prime) % prime != 1:
        back += 1
    modulus = prime
    while modulus <= most:
        modulus = modulus * modulus
        zero = (zero - worth_modulo(numbers, zero, modulus) * back) % modulus
        back = back * (2 - worth_modulo(turn, zero, modulus) * back) % modulus
    return zero, modulus


def inner_fractions(row):
    """The fractions of a size below 1 at which a row is 0; its first number is not 0."""
    numbers = plain_part(cleared(row)[0])
    # Each zero that is a fraction is a whole number over the last number.
    last = numbers[-1]
    prime = fit_prime(numbers)
    found = []
    for zero in zeros_modulo(numbers, prime):
        place, modulus = lifted(numbers, zero, prime, 2 * abs(last))
        top = place * last % modulus
        if 2 * top > modulus:
            top -= modulus
        if abs(top) < abs(last) and is_zero(numbers, ratio(top, last)):
            found.append(ratio(top, last))
    return found

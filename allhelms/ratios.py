"""Fractions: pairs (n, m) of whole numbers without a common divisor, m above 0.

Only the functions that ask what a value is, and those that begin with
`check`, look at what they are passed; the others take fractions for granted.
"""

from math import gcd

from allhelms.errors import InvalidFraction, InvalidNumber

NIL = (0, 1)
ONE = (1, 1)


def is_whole(value):
    """Whether a value, whatever it is, is a whole number."""
    # True and False are no whole numbers, and their class is not int itself.
    return type(value) is int


def is_fraction(value):
    """Whether a value, whatever it is, is a fraction."""
    if type(value) is not tuple or len(value) != 2:
        return False
    number, under = value
    return is_whole(number) and is_whole(under) and under > 0 and gcd(number, under) == 1


def check_fraction(given):
    """Raise InvalidFraction for no fraction."""
    if not is_fraction(given):
        raise InvalidFraction(given)


def is_share(value):
    """Whether a value, whatever it is, is a fraction above 0 and up to 1."""
    return is_fraction(value) and 0 < value[0] <= value[1]


def is_inner(value):
    """Whether a value, whatever it is, is a fraction from - 1 to 1."""
    return is_fraction(value) and abs(value[0]) <= value[1]


def check_number(given, low, high):
    """Raise InvalidNumber for no whole number from low to high."""
    if not is_whole(given) or not low <= given <= high:
        raise InvalidNumber(given)


def ratio(number, under):
    """The fraction number / under of two whole numbers, under not 0."""
    part = gcd(number, under)
    if under < 0:
        part = -part
    return number // part, under // part


def ratio_sum(one, other):
    """The sum of two fractions."""
    return ratio(one[0] * other[1] + other[0] * one[1], one[1] * other[1])


def ratio_less(one, other):
    """The first fraction less the second one."""
    return ratio(one[0] * other[1] - other[0] * one[1], one[1] * other[1])


def ratio_product(one, other):
    """The product of two fractions."""
    return ratio(one[0] * other[0], one[1] * other[1])


def ratio_over(one, other):
    """The first fraction over the second one, which is not 0."""
    return ratio(one[0] * other[1], one[1] * other[0])


def is_small(one):
    """Whether a fraction is of a size below 1."""
    return abs(one[0]) < one[1]


def is_up_to(one, other):
    """Whether the first fraction is at most the second one."""
    return one[0] * other[1] <= other[0] * one[1]


def powered(number, many):
    """The whole number to the power `many`, which is from 0 on."""
    power = 1
    while many > 0:
        if many & 1:
            power = power * number
        number = number * number
        many >>= 1
    return power

"""The worst of an answer: the sum of the sizes of its numbers, from both sides, with rows that show it."""

from allhelms.answers import check_answer, is_steady_answer
from allhelms.errors import NotSteady
from allhelms.ratios import (ONE, check_fraction, check_number, is_small, is_up_to, ratio, ratio_less, ratio_over,
                             ratio_sum)
from allhelms.rows import is_row
from allhelms.sums import cleared, row_over, size_sum, whole_product

MOST_MANY = 1000000
FEWEST_NUMBERS = 8
SPARE_BITS = 32


def sizes_of(numbers):
    """The sum of the sizes of whole numbers."""
    return sum([abs(number) for number in numbers])


def ends_with(answer, numbers, unit):
    """The pair (s / (1 + f), s / (1 - f)) of a row, whole numbers over one; None if f is not below 1."""
    tops, over = cleared(answer[0])
    unders, part = cleared(answer[1])
    rest = whole_product(unders, numbers)
    # So UNDER times the row is less 1, which changes no size.
    rest[0] -= part * unit
    s, f = ratio(sizes_of(whole_product(tops, numbers)), over * unit), ratio(sizes_of(rest), part * unit)
    if not is_small(f):
        return None
    return ratio_over(s, ratio_sum(ONE, f)), ratio_over(s, ratio_less(ONE, f))


def near_numbers(under, many, bits):
    """The first numbers of 1 / UNDER, so many, each next one told to so many bits from those before."""
    by = cleared(under)[0]
    first = by[0]
    numbers = [1 << bits]
    while len(numbers) < many:
        here = 0
        for back in range(1, min(len(numbers), len(by) - 1) + 1):
            here -= by[back] * numbers[-back]
        # What is lost here is lost of UNDER times the row at this place alone.
        numbers.append((2 * here + first) // (2 * first))
    return numbers


def bounding(answer, many):
    """A row and its ends, which are at most 1 / many apart, of a steady answer."""
    under = answer[1]
    top, part = size_sum(answer[0])
    bits = SPARE_BITS + (many * (top // part + 1)).bit_length()
    length = FEWEST_NUMBERS
    while True:
        numbers = near_numbers(under, length, bits)
        ends = ends_with(answer, numbers, 1 << bits)
        if ends is not None and is_up_to(ratio_less(ends[1], ends[0]), (1, many)):
            return row_over(numbers, 1 << bits), ends
        length = 2 * length
        # Twice as many numbers sum up to at most about 2 ** degree times as much, and lose as much more.
        bits += 4 * len(under)


def checked_bounding(answer, many):
    """The same for what may be no steady answer or no such number."""
    check_answer(answer)
    check_number(many, 1, MOST_MANY)
    if not is_steady_answer(answer):
        raise NotSteady()
    return bounding(answer, many)


def worst_near(answer, many):
    """A pair (LOW, HIGH) from which and up to which the worst is, at most 1 / many apart."""
    return checked_bounding(answer, many)[1]


def worst_row(answer, many):
    """A row that bounds the worst from and to the pair that `worst_near` tells."""
    return checked_bounding(answer, many)[0]


def is_bound(answer, low, high, value):
    """Whether a value, whatever it is, is a row that bounds the worst from low to high."""
    check_answer(answer)
    check_fraction(low)
    check_fraction(high)
    if not is_row(value):
        return False
    numbers, unit = cleared(value)
    # No row does so for an answer that is not steady: where UNDER is 0, f would be 1 at least.
    ends = ends_with(answer, numbers, unit)
    return ends is not None and is_up_to(low, ends[0]) and is_up_to(ends[1], high)

"""Steady rows: those that are 0 for no number of the size 1 or less."""

from allhelms.errors import InvalidBends, InvalidFraction
from allhelms.ratios import (NIL, ONE, is_fraction, is_share, is_small, ratio, ratio_over,
                             ratio_product, ratio_sum)
from allhelms.rows import check_filled_row
from allhelms.sums import UNIT, cleared, divided, stretched


def found_bends(row):
    """The bends of a row, other than (), over its first number; None if it is not steady."""
    numbers = cleared(row)[0]
    bends = []
    while len(numbers) > 1:
        first, last = numbers[0], numbers[-1]
        if abs(last) >= abs(first):
            return None
        bends.append(ratio(last, first))
        ahead, back = numbers[:-1], numbers[:0:-1]
        # Only the quotients of the numbers count, so the division by 1 - k k may be left out.
        numbers = divided([first * x - last * y for x, y in zip(ahead, back)])
    return tuple(bends)


def is_steady(row):
    """Whether a row is 0 for no number, real or not, of the size 1 or less."""
    check_filled_row(row)
    return found_bends(row) is not None


def bends_of(row):
    """The bends of the row over its first number; None if it is not steady."""
    check_filled_row(row)
    return found_bends(row)


def is_quick(row, fraction):
    """Whether a row is 0 for no number of the size 1 / fraction or less."""
    check_filled_row(row)
    if not is_share(fraction):
        raise InvalidFraction(fraction)
    return found_bends(stretched(row, ratio_over(ONE, fraction))) is not None


def check_bends(given):
    """Raise InvalidBends for what are no bends of a row."""
    if type(given) is not tuple:
        raise InvalidBends(None)
    for index, bend in enumerate(given):
        if not is_fraction(bend) or not is_small(bend) or (index == 0 and bend == NIL):
            raise InvalidBends(index)


def row_of(bends):
    """The led row with these bends."""
    check_bends(bends)
    row = UNIT
    for bend in reversed(bends):
        ahead, back = row + (NIL,), (NIL,) + row[::-1]
        row = tuple([ratio_sum(x, ratio_product(bend, y)) for x, y in zip(ahead, back)])
    return row

"""Rows: tuples of fractions, the last one not 0, or the nought row ()."""

from allhelms.errors import InvalidRow
from allhelms.ratios import NIL, ONE, check_fraction, is_fraction, ratio_over
from allhelms.sums import (UNIT, inverse_in, minus, plus, quotient_of, shared_part, split_row,
                           times, worth_of)


def is_row(value):
    """Whether a value, whatever it is, is a row."""
    if type(value) is not tuple:
        return False
    return all(is_fraction(number) for number in value) and (value == () or value[-1] != NIL)


def is_led(row):
    """Whether a row's first number is 1."""
    return row != () and row[0] == ONE


def is_filled_row(value):
    """Whether a value, whatever it is, is a row other than ()."""
    return is_row(value) and value != ()


def is_led_row(value):
    """Whether a value, whatever it is, is a led row."""
    return is_row(value) and is_led(value)


def check_row(given):
    """Raise InvalidRow for no row."""
    if not is_row(given):
        raise InvalidRow(given)


def check_filled_row(given):
    """Raise InvalidRow for no row other than ()."""
    if not is_filled_row(given):
        raise InvalidRow(given)


def check_led_row(given):
    """Raise InvalidRow for no led row."""
    if not is_led_row(given):
        raise InvalidRow(given)


def check_two_rows(row, other):
    """Raise InvalidRow for what is no row, and for the other one if both are ()."""
    check_row(row)
    check_row(other)
    if row == () and other == ():
        raise InvalidRow(other)


def value_at(row, fraction):
    """The worth of a row at a fraction."""
    check_row(row)
    check_fraction(fraction)
    return worth_of(row, fraction)


def row_sum(row, other):
    """The sum of two rows."""
    check_row(row)
    check_row(other)
    return plus(row, other)


def row_less(row, other):
    """The first row less the second one."""
    check_row(row)
    check_row(other)
    return minus(row, other)


def row_product(row, other):
    """The product of two rows."""
    check_row(row)
    check_row(other)
    return times(row, other)


def parted(row, other):
    """The pair (quotient, rest) of a row over another one."""
    check_row(row)
    check_filled_row(other)
    return split_row(row, other)


def divides(row, other):
    """Whether the other row is a product with the row."""
    check_filled_row(row)
    check_row(other)
    return split_row(other, row)[1] == ()


def common_divisor(row, other):
    """The common divisor of two rows, its first number that is not 0 being 1."""
    check_two_rows(row, other)
    return shared_part(row, other)


def cofactors(row, other):
    """The rows e and f with which the common divisor is e times the row and f times the other."""
    check_two_rows(row, other)
    part = shared_part(row, other)
    if other == ():
        return (ratio_over(ONE, quotient_of(row, part)[0]),), ()
    ours, theirs = quotient_of(row, part), quotient_of(other, part)
    if len(theirs) == 1:
        return (), (ratio_over(ONE, theirs[0]),)
    left = inverse_in(ours, theirs)
    return left, quotient_of(minus(UNIT, times(left, ours)), theirs)

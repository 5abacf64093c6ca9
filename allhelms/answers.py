"""Answers: pairs (TOP, UNDER) of rows without a common divisor, UNDER led."""

from allhelms.errors import InvalidAnswer, InvalidRow, NotSteady, NoughtFirst
from allhelms.ratios import NIL, ONE, check_number, ratio_less, ratio_over, ratio_product
from allhelms.rows import check_filled_row, check_row, is_led_row, is_row
from allhelms.steady import found_bends
from allhelms.sums import plus, quotient_of, scaled, shared_part, times, worth_of

MOST_NUMBERS = 60


def is_answer(value):
    """Whether a value, whatever it is, is an answer."""
    if type(value) is not tuple or len(value) != 2:
        return False
    top, under = value
    if not is_row(top) or not is_led_row(under):
        return False
    # The common divisor with () is UNDER itself, which then is (1).
    return len(shared_part(top, under)) == 1


def check_answer(given):
    """Raise InvalidAnswer for no answer."""
    if not is_answer(given):
        raise InvalidAnswer(given)


def made_answer(top, under):
    """The answer of the quotient of two rows, the first number of the second one not 0."""
    part = shared_part(top, under)
    even = ratio_over(ONE, under[0])
    return scaled(quotient_of(top, part), even), scaled(quotient_of(under, part), even)


def is_steady_answer(answer):
    """Whether UNDER is steady."""
    return found_bends(answer[1]) is not None


def answer_of(row, other):
    """The answer of the quotient of two rows."""
    check_row(row)
    check_filled_row(other)
    if other[0] == NIL:
        raise InvalidRow(other)
    return made_answer(row, other)


def next_number(answer, told):
    """The number of an answer that comes behind those that are told."""
    top, under = answer
    many = len(told)
    number = top[many] if many < len(top) else NIL
    for back in range(1, min(many, len(under) - 1) + 1):
        number = ratio_less(number, ratio_product(under[back], told[many - back]))
    return number


def first_numbers(answer, number):
    """The tuple of the first numbers of an answer, so many."""
    check_answer(answer)
    check_number(number, 0, MOST_NUMBERS)
    told = []
    for _ in range(number):
        told.append(next_number(answer, told))
    return tuple(told)


def answer_sum(answer, other):
    """The sum of two answers."""
    check_answer(answer)
    check_answer(other)
    top = plus(times(answer[0], other[1]), times(other[0], answer[1]))
    return made_answer(top, times(answer[1], other[1]))


def answer_product(answer, other):
    """The product of two answers."""
    check_answer(answer)
    check_answer(other)
    return made_answer(times(answer[0], other[0]), times(answer[1], other[1]))


def answer_over(answer, other):
    """The first answer over the second one, whose first number is not 0."""
    check_answer(answer)
    check_answer(other)
    if other[0] == () or other[0][0] == NIL:
        raise NoughtFirst()
    return made_answer(times(answer[0], other[1]), times(answer[1], other[0]))


def dies_out(answer):
    """Whether an answer is steady: its numbers come to 0."""
    check_answer(answer)
    return is_steady_answer(answer)


def whole_sum(answer):
    """The sum of all numbers of an answer."""
    check_answer(answer)
    if not is_steady_answer(answer):
        raise NotSteady()
    return ratio_over(worth_of(answer[0], ONE), worth_of(answer[1], ONE))

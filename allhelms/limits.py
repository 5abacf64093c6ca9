"""What no helm can: the errors that some helm leaves, the sums that all have in common, dips and peaks."""

from allhelms.answers import check_answer, made_answer
from allhelms.closings import base_of, closed
from allhelms.errors import InvalidFraction, NotAZero
from allhelms.helms import helm_of
from allhelms.loops import check_loop, check_steady_loop
from allhelms.machines import check_machine, found_core, steady_core
from allhelms.ratios import (NIL, ONE, check_fraction, check_number, is_fraction, is_inner, is_small, powered,
                             ratio, ratio_less, ratio_over, ratio_product)
from allhelms.rules import has_unsteady_zeros
from allhelms.sums import UNIT, minus, quotient_of, scaled, shared_part, times, trimmed, worth_of

LEAST_BEAT = 2
MOST_BEAT = 60


def check_inner(given):
    """Raise InvalidFraction for no fraction from - 1 to 1."""
    if not is_inner(given):
        raise InvalidFraction(given)


def check_between(given):
    """Raise InvalidFraction for no fraction above 0 and below 1."""
    if not is_fraction(given) or given[0] <= 0 or not is_small(given):
        raise InvalidFraction(given)


def check_slack(given):
    """Raise InvalidFraction for no fraction from 0 on and below 1."""
    if not is_fraction(given) or given[0] < 0 or not is_small(given):
        raise InvalidFraction(given)


def check_zero(row, given):
    """Raise NotAZero if the worth of the row there is not 0."""
    if worth_of(row, given) != NIL:
        raise NotAZero(given)


def helm_leaving(core, top, under):
    """The helm that leaves the error top / under, one that some helm leaves; without common divisor."""
    n, m = core
    rest = minus(under, top)
    # Neither top and rest have a divisor in common nor n and m, so these two parts are all there is.
    ours, theirs = shared_part(rest, n), shared_part(top, m)
    a = times(quotient_of(rest, ours), quotient_of(m, theirs))
    b = times(quotient_of(top, theirs), quotient_of(n, ours))
    even = ratio_over(ONE, b[0])
    return scaled(a, even), scaled(b, even)


def sum_of_all(core, x):
    """The sum of S_k x^k that all helms have in common; None if it is free."""
    if worth_of(core[0], x) == NIL:
        return ONE
    return NIL if worth_of(core[1], x) == NIL else None


def error_answer(machine, helm):
    """What is left of a goal: the answer m b / c."""
    check_loop(machine, helm)
    check_steady_loop(machine, helm)
    return made_answer(times(machine[1], helm[1]), closed(machine, helm))


def is_error(machine, answer):
    """Whether it is the error answer of some helm that steadies the machine."""
    return helm_with_error(machine, answer) is not None


def helm_with_error(machine, answer):
    """The helm, without common divisor, that leaves this error; None if there is none."""
    check_machine(machine)
    check_answer(answer)
    core = found_core(machine)
    if core is None:
        return None
    n, m = core
    top, under = answer
    # S / m' and (1 - S) / n' are steady answers just if they leave no unsteady zero, 0 among them, below.
    leave = has_unsteady_zeros(top, times(under, m)) and has_unsteady_zeros(minus(under, top), times(under, n))
    return helm_leaving(core, top, under) if leave else None


def fixed_sum(machine, x):
    """The sum of S_k x^k if it is the same for all helms that steady the machine; None if it is free."""
    check_machine(machine)
    check_inner(x)
    return sum_of_all(steady_core(machine), x)


def helm_with_sum(machine, x, value):
    """Any helm that steadies the machine with this sum of S_k x^k; None if there is none."""
    check_machine(machine)
    check_inner(x)
    check_fraction(value)
    core = steady_core(machine)
    fixed = sum_of_all(core, x)
    if fixed is not None:
        return base_of(core) if fixed == value else None
    n, m = core
    # S is m' (w - n' q): a free answer of one number does for the worth at one place.
    left = ratio_less(worth_of(base_of(core)[1], x), ratio_over(value, worth_of(m, x)))
    return helm_of(core, (trimmed([ratio_over(left, worth_of(n, x))]), UNIT))


def least_dip(machine, x, beat, slack):
    """How far y dips at least if it is from 1 - slack up from this beat on, n' being 0 at x."""
    check_machine(machine)
    check_between(x)
    check_number(beat, LEAST_BEAT, MOST_BEAT)
    check_slack(slack)
    check_zero(steady_core(machine)[0], x)
    top, under = powered(x[0], beat - 1), powered(x[1], beat - 1)
    return ratio_product(ratio_less(ONE, slack), ratio(top, under - top))


def least_peak(machine, x):
    """How high y comes at least, m' being 0 at x."""
    check_machine(machine)
    check_between(x)
    check_zero(steady_core(machine)[1], x)
    return ratio_over(ONE, x)

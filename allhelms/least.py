"""The least worst answer for all goals over all helms, of machines whose unsteady zeros are fractions."""

from allhelms.balance import greatest_weights, least_numbers
from allhelms.errors import NotTold
from allhelms.limits import helm_leaving
from allhelms.machines import check_machine, found_core, steady_core
from allhelms.powers import Aims, are_within
from allhelms.ratios import NIL, ONE, is_fraction, ratio_less, ratio_over
from allhelms.steady import found_bends
from allhelms.sums import UNIT, minus, quotient_of, size_sum
from allhelms.zeros import inner_fractions


def noughts_ahead(row):
    """How many numbers of a row, other than (), are 0 ahead of the first other one."""
    many = 0
    while row[many] == NIL:
        many += 1
    return many


def simple_zeros(row):
    """The unsteady zeros of a row if all are fractions of a size below 1, none twice; otherwise None.

    The first number of the row is not 0.
    """
    found = inner_fractions(row)
    rest = row
    for x in found:
        rest = quotient_of(rest, (ONE, ratio_less(NIL, ratio_over(ONE, x))))
    return found if found_bends(rest) is not None else None


def aims_of(core):
    """What T has to be at the unsteady zeros of a machine without hidden part; None if it is not told."""
    n, m = core
    first = noughts_ahead(n)
    noughts, ones = simple_zeros(n[first:]), simple_zeros(m)
    if noughts is None or ones is None:
        return None
    unit = 1
    for _, part in noughts + ones:
        unit = unit * part
    # Over one common number they are ascending as their tops are.
    told = [(x[0] * (unit // x[1]), x, 0) for x in noughts] + [(x[0] * (unit // x[1]), x, 1) for x in ones]
    told = sorted(told, key=lambda zero: zero[0])
    return Aims([x for _, x, _ in told], [wanted for _, _, wanted in told], first)


def told_aims(machine):
    """The same of any machine; None, too, if no helm steadies it."""
    core = found_core(machine)
    return None if core is None else aims_of(core)


def checked_aims(machine):
    """The same of what may be no machine, one that no helm steadies or one that is not told."""
    check_machine(machine)
    aims = aims_of(steady_core(machine))
    if aims is None:
        raise NotTold()
    return aims


def weigh(aims, value):
    """Whether a value, whatever it is, is a tuple of weights, one for each zero."""
    if type(value) is not tuple or len(value) != len(aims.zeros):
        return False
    return all(is_fraction(number) for number in value) and are_within(aims, value)


def is_told(machine):
    """Whether a machine is told; False, too, if no helm steadies it."""
    check_machine(machine)
    return told_aims(machine) is not None


def told_zeros(machine):
    """The unsteady zeros of n' other than 0, and of m', ascending."""
    return tuple(checked_aims(machine).zeros)


def least_worst(machine):
    """The least sum of sizes of the numbers of the answer from the goal to y, over all helms."""
    return size_sum(least_row(machine))


def least_row(machine):
    """Any row from the goal to y that reaches the least worst."""
    return least_numbers(checked_aims(machine))


def worst_weights(machine):
    """Any weights that show that no helm is better, in the order of `told_zeros`."""
    return greatest_weights(checked_aims(machine))


def are_weights(machine, value):
    """Whether a value, whatever it is, is a tuple of weights in the order of `told_zeros`."""
    return weigh(checked_aims(machine), value)


def calmest_helm(machine):
    """Any helm that reaches the least worst, without common divisor."""
    row = least_row(machine)
    return helm_leaving(steady_core(machine), minus(UNIT, row), UNIT)

"""Steady helms, and one helm for two machines: whether there is one, and stretches that show that there is none."""

from allhelms.closings import base_of
from allhelms.machines import check_machine, steady_core
from allhelms.ratios import ONE, is_inner, is_up_to, ratio
from allhelms.sums import cleared, minus, plus, times, worth_of
from allhelms.zeros import halves, has_zero, is_free, is_hit, plain_part, stretch_of

LESS = (-1, 1)


def parts_at(core, low, high):
    """Whether one row of a machine is 0 somewhere from low to high, and the other one below 0 throughout."""
    n, m = core
    return worth_of(m, low)[0] < 0 and not has_zero(m, low, high) and has_zero(n, low, high)


def found_parting(core):
    """A parting stretch of a machine whose rows have no common divisor; None if there is none."""
    n, m = cleared(core[0])[0], cleared(core[1])[0]
    left = [(LESS, ONE, stretch_of(plain_part(n), LESS, ONE), stretch_of(m, LESS, ONE))]
    while left != []:
        low, high, ours, theirs = left.pop()
        parted = is_free(theirs)
        if is_free(ours) or (parted and theirs[0] > 0):
            continue
        if parted and is_hit(ours):
            return low, high
        # No zero is one of both, so one of both rows is free in short stretches.
        middle = ratio(low[0] * high[1] + high[0] * low[1], 2 * low[1] * high[1])
        ahead, behind = halves(ours), halves(theirs)
        left.append((middle, high, ahead[1], behind[1]))
        left.append((low, middle, ahead[0], behind[0]))
    return None


def checked_difference(machine, other):
    """The difference of what may be no machines or such as no helm steadies."""
    check_machine(machine)
    check_machine(other)
    n, m = steady_core(machine)
    k, l = steady_core(other)
    p, w = base_of((n, m))
    return minus(times(n, l), times(k, m)), plus(times(w, l), times(p, k))


def has_steady_helm(machine):
    """Whether some helm (a, b) with a steady b steadies a machine."""
    return parting_stretch(machine) is None


def parting_stretch(machine):
    """Any parting stretch; None if some helm with a steady b steadies the machine."""
    check_machine(machine)
    return found_parting(steady_core(machine))


def is_parting(machine, value):
    """Whether a value, whatever it is, is a parting stretch."""
    check_machine(machine)
    core = steady_core(machine)
    if type(value) is not tuple or len(value) != 2:
        return False
    low, high = value
    return is_inner(low) and is_inner(high) and is_up_to(low, high) and parts_at(core, low, high)


def difference_of(machine, other):
    """The difference of two machines, the first row () if one of them closes as the other one does."""
    return checked_difference(machine, other)


def one_for_both(machine, other):
    """Whether one helm steadies both machines."""
    return parting_of_both(machine, other) is None


def parting_of_both(machine, other):
    """Any parting stretch of the difference; None if one helm steadies both machines."""
    difference = checked_difference(machine, other)
    return None if difference[0] == () else found_parting(difference)

"""Certificates: of two claims that exclude one another the one that is so, with its paper."""

from allhelms.closings import base_of, closed, shared_by
from allhelms.helms import base_helm, free_answer, least_helm
from allhelms.least import least_row, worst_weights
from allhelms.limits import fixed_sum, helm_with_error, helm_with_sum
from allhelms.loops import fewest_beats, is_steady_loop, running_start
from allhelms.machines import can_be_steadied
from allhelms.parity import parting_of_both, parting_stretch
from allhelms.rules import following_helm, unfollowed_start
from allhelms.steady import bends_of, found_bends
from allhelms.sums import size_sum
from allhelms.worst import worst_near, worst_row


def certify_bends(row):
    """The bends of a row, or that it is not steady."""
    bends = bends_of(row)
    if bends is None:
        return ("unsteady", row), ()
    return ("bends", row, bends), ()


def certify_loop(machine, helm):
    """Whether a loop is steady."""
    if is_steady_loop(machine, helm):
        return ("loop steady", machine, helm), found_bends(closed(machine, helm))
    return ("runs away", machine, helm), running_start(machine, helm)


def certify_machine(machine):
    """Whether some helm steadies a machine."""
    if can_be_steadied(machine):
        return ("can be steadied", machine), base_helm(machine)
    return ("cannot be steadied", machine), shared_by(machine)


def certify_free(machine, helm):
    """The free answer of a helm."""
    return ("of free", machine, helm, free_answer(machine, helm)), ()


def certify_follows(machine, helm, rule):
    """Whether a helm follows a rule."""
    start = unfollowed_start(machine, helm, rule)
    if start is None:
        return ("follows", machine, helm, rule), ()
    return ("does not follow", machine, helm, rule), start


def certify_rule(machine, rule):
    """Whether some helm that steadies a machine follows a rule."""
    helm = following_helm(machine, rule)
    if helm is None:
        return ("none follows", machine, rule), ()
    return ("can follow", machine, rule), helm


def certify_error(machine, answer):
    """Whether an answer is the error of some helm that steadies a machine."""
    helm = helm_with_error(machine, answer)
    if helm is None:
        return ("error of none", machine, answer), ()
    return ("error of one", machine, answer), helm


def certify_sum(machine, x, value):
    """The sum that all errors have in common, or that this sum is one of those that are free."""
    # Its errors are just those that are due here, in this order.
    helm = helm_with_sum(machine, x, value)
    fixed = fixed_sum(machine, x)
    if fixed is None:
        return ("sum free", machine, x, value), helm
    return ("sum fixed", machine, x, fixed), ()


def certify_worst(answer, many):
    """Bounds of the worst of an answer."""
    low, high = worst_near(answer, many)
    return ("worst within", answer, low, high), worst_row(answer, many)


def certify_closing(machine, wished):
    """Whether some helm has a closing row."""
    helm = least_helm(machine, wished)
    if helm is None:
        return ("never closed by", machine, wished), shared_by(machine)
    return ("closed by", machine, wished), helm


def certify_over(machine):
    """After how many beats a machine is over at the earliest, or that it never is."""
    number = fewest_beats(machine)
    if number is None:
        return ("never over", machine), shared_by(machine)
    return ("over", machine, number), base_of(machine)


def certify_least(machine):
    """The least worst of a machine."""
    row = least_row(machine)
    return ("least worst", machine, size_sum(row)), (row, worst_weights(machine))


def certify_steady_helm(machine):
    """Whether some helm with a steady b steadies a machine."""
    parting = parting_stretch(machine)
    if parting is None:
        return ("steady helm", machine), ()
    return ("no steady helm", machine), parting


def certify_both(machine, other):
    """Whether one helm steadies two machines."""
    parting = parting_of_both(machine, other)
    if parting is None:
        return ("one for both", machine, other), ()
    return ("none for both", machine, other), parting

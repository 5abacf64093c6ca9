"""All helms that steady a machine, each by one free answer, and the least one for a closing row."""

from allhelms.answers import check_answer, is_steady_answer, made_answer
from allhelms.closings import base_of, closed, closing_helm, shared_by, without
from allhelms.errors import NotSteady
from allhelms.loops import check_loop, check_steady_loop
from allhelms.machines import check_helm, check_machine, steady_core
from allhelms.rows import check_led_row
from allhelms.steady import found_bends
from allhelms.sums import minus, plus, split_row, times


def base_helm(machine):
    """The helm (p, w) with m' w + n' p = 1, p being () or of a degree below that of m'."""
    check_machine(machine)
    return base_of(steady_core(machine))


def helm_of(machine, free):
    """The helm of a free answer, without common divisor."""
    check_machine(machine)
    check_answer(free)
    core = steady_core(machine)
    if not is_steady_answer(free):
        raise NotSteady()
    n, m = core
    p, w = base_of(core)
    top, under = free
    # Without common divisor by itself: as m' w + n' p = 1, one of both would divide top and under.
    return plus(times(p, under), times(m, top)), minus(times(w, under), times(n, top))


def free_answer(machine, helm):
    """The free answer of a helm."""
    check_loop(machine, helm)
    core = steady_core(machine)
    check_steady_loop(machine, helm)
    p, w = base_of(core)
    a, b = helm
    # What a and b have in common is taken away with all that is, so the helm may stay as it is.
    return made_answer(minus(times(a, w), times(b, p)), closed(core, helm))


def least_helm(machine, wished):
    """The least helm for a closing row; None if there is none."""
    check_machine(machine)
    check_led_row(wished)
    part = shared_by(machine)
    quotient, rest = split_row(wished, part)
    if rest != ():
        return None
    return closing_helm(without(machine, part), quotient)


def is_steady_helm(helm):
    """Whether the row b of a helm is steady."""
    check_helm(helm)
    return found_bends(helm[1]) is not None

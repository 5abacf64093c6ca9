"""Loops: a machine and a helm closed to one another, what they show and tell."""

from allhelms.answers import check_answer, made_answer
from allhelms.closings import base_of, closed, greater_degree, shared_by
from allhelms.errors import InvalidStart, NotSteady
from allhelms.machines import check_helm, check_machine
from allhelms.rows import is_row
from allhelms.steady import found_bends
from allhelms.sums import UNIT, minus, plus, quotient_of, times


def check_loop(machine, helm):
    """Raise InvalidMachine for no machine, InvalidHelm for no helm."""
    check_machine(machine)
    check_helm(helm)


def is_start(value, size):
    """Whether a value, whatever it is, is a row of a degree below the size, () let."""
    return is_row(value) and len(value) <= size


def check_start(given, size):
    """Raise InvalidStart for no row of a degree below the size, () let."""
    if not is_start(given, size):
        raise InvalidStart(given)


def closes_steadily(machine, helm):
    """Whether the loop is steady."""
    return found_bends(closed(machine, helm)) is not None


def check_steady_loop(machine, helm):
    """Raise NotSteady if the loop is not steady."""
    if not closes_steadily(machine, helm):
        raise NotSteady()


def closing_row(machine, helm):
    """The closing row of a machine and a helm."""
    check_loop(machine, helm)
    return closed(machine, helm)


def is_steady_loop(machine, helm):
    """Whether the loop of a machine and a helm is steady."""
    check_loop(machine, helm)
    return closes_steadily(machine, helm)


def four_answers(machine, helm):
    """The answers from goal to y, from goal to u, from push to y and from push to u."""
    check_loop(machine, helm)
    n, m = machine
    a, b = helm
    under = closed(machine, helm)
    there = times(n, a)
    tops = there, times(m, a), times(n, b), minus((), there)
    return tuple([made_answer(top, under) for top in tops])


def shown(machine, helm, goal, push, start, turn):
    """The answers whose numbers are y and u."""
    check_loop(machine, helm)
    check_answer(goal)
    check_answer(push)
    check_start(start, greater_degree(machine))
    check_start(turn, greater_degree(helm))
    n, m = machine
    a, b = helm
    under = times(goal[1], push[1])
    # The helm gets a g + t, the machine n v + s: over one row p and q, so y c = n p + b q.
    p = plus(times(times(a, goal[0]), push[1]), times(turn, under))
    q = plus(times(times(n, push[0]), goal[1]), times(start, under))
    y = plus(times(n, p), times(b, q))
    u = minus(times(m, p), times(a, q))
    whole = times(closed(machine, helm), under)
    return made_answer(y, whole), made_answer(u, whole)


def running_start(machine, helm):
    """Any starts of both with which not all numbers come to 0; None if the loop is steady."""
    check_loop(machine, helm)
    row = closed(machine, helm)
    if found_bends(row) is not None:
        return None
    # The start 1 of the machine leaves b / c and - a / c, that of the helm n / c and m / c. All four
    # cannot come to 0: c = m b + n a would have each of its unsteady zeros twice as often.
    if found_bends(quotient_of(row, shared_by(helm))) is None:
        return UNIT, ()
    return (), UNIT


def last_beat(machine, helm):
    """The least beat from which on all is 0 for all starts; None if there is none."""
    check_loop(machine, helm)
    if closed(machine, helm) != UNIT:
        return None
    return greater_degree(machine) + greater_degree(helm)


def fewest_beats(machine):
    """After how many beats a machine is over at the earliest; None if it never is."""
    check_machine(machine)
    if shared_by(machine) != UNIT:
        return None
    return greater_degree(machine) + greater_degree(base_of(machine))

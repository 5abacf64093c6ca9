"""Rules: rows that tell goals, and which helms follow all goals of one."""

from allhelms.closings import base_of, shared_by, without
from allhelms.errors import InvalidRule
from allhelms.loops import check_loop, check_steady_loop
from allhelms.machines import check_machine, found_core
from allhelms.rows import is_led_row
from allhelms.steady import found_bends
from allhelms.sums import UNIT, quotient_of, shared_part, times


def is_rule(value):
    """Whether a value, whatever it is, is a led row of a degree above 0."""
    return is_led_row(value) and len(value) > 1


def check_rule(given):
    """Raise InvalidRule for no led row of a degree above 0."""
    if not is_rule(given):
        raise InvalidRule(given)


def has_unsteady_zeros(row, other):
    """Whether a row has all unsteady zeros of the other one, not (), each at least as often."""
    return found_bends(quotient_of(other, shared_part(row, other))) is not None


def left_of(core, rule):
    """What is left of a rule by a machine whose rows have no common divisor."""
    return quotient_of(rule, shared_part(rule, core[1]))


def follows(machine, helm, rule):
    """Whether a helm that steadies a machine follows a rule."""
    check_loop(machine, helm)
    check_rule(rule)
    check_steady_loop(machine, helm)
    return has_unsteady_zeros(times(machine[1], helm[1]), rule)


def unfollowed_start(machine, helm, rule):
    """The start of a goal whose error does not come to 0; None if the helm follows the rule."""
    return None if follows(machine, helm, rule) else UNIT


def can_follow(machine, rule):
    """Whether some helm that steadies a machine follows a rule."""
    return following_helm(machine, rule) is not None


def following_helm(machine, rule):
    """Any helm that steadies a machine and follows a rule; None if there is none."""
    check_machine(machine)
    check_rule(rule)
    core = found_core(machine)
    if core is None:
        return None
    left = left_of(core, rule)
    longer = found_core((core[0], times(core[1], left)))
    if longer is None:
        return None
    a, b = base_of(longer)
    return a, times(b, left)


def rule_left(machine, rule):
    """The rule over its common divisor with m'."""
    check_machine(machine)
    check_rule(rule)
    return left_of(without(machine, shared_by(machine)), rule)

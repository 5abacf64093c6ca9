"""The checker: whether a paper shows that a claim is so.

Each function below whose name ends with `_shown` takes the parts of a claim, all
right by themselves, and its paper, which may be anything.
"""

from allhelms.answers import is_answer, is_steady_answer, made_answer
from allhelms.closings import closed, greater_degree
from allhelms.helms import free_answer
from allhelms.least import told_aims, weigh
from allhelms.limits import error_answer, fixed_sum, helm_with_error
from allhelms.loops import closes_steadily, fewest_beats, is_start, last_beat
from allhelms.machines import can_be_steadied, is_helm, is_machine
from allhelms.parity import difference_of, has_steady_helm, is_parting, one_for_both
from allhelms.ratios import NIL, is_fraction, is_inner, is_small, is_whole, ratio_product, ratio_sum
from allhelms.rows import is_filled_row, is_led_row, is_row
from allhelms.rules import can_follow, follows, is_rule
from allhelms.steady import found_bends, is_steady
from allhelms.sums import minus, plus, size_sum, split_row, times, worth_of
from allhelms.worst import is_bound


def is_nothing(paper):
    """Whether a paper is ()."""
    return type(paper) is tuple and len(paper) == 0


def are_bends(value):
    """Whether a value, whatever it is, is a tuple of fractions of sizes below 1."""
    return type(value) is tuple and all(is_fraction(bend) and is_small(bend) for bend in value)


def is_divisor(value, row):
    """Whether a row, other than (), divides another one."""
    return split_row(row, value)[1] == ()


def divides_both(value, machine):
    """Whether a value, whatever it is, is a row other than () that divides both rows of a machine."""
    return is_filled_row(value) and is_divisor(value, machine[0]) and is_divisor(value, machine[1])


def is_steadying(value, machine):
    """Whether a value, whatever it is, is a helm that steadies a machine."""
    return is_helm(value) and closes_steadily(machine, value)


def goes_out(top, under):
    """Whether the numbers of the quotient of two rows, the second one led, come to 0."""
    return is_steady_answer(made_answer(top, under))


def bends_shown(row, bends, paper):
    """The row over its first number is steady and has these bends."""
    return is_nothing(paper) and found_bends(row) == bends


def unsteady_shown(row, paper):
    """The row is not steady."""
    return is_nothing(paper) and not is_steady(row)


def loop_steady_shown(machine, helm, paper):
    """The loop is steady; the paper: the bends of its closing row."""
    return are_bends(paper) and found_bends(closed(machine, helm)) == paper


def runs_away_shown(machine, helm, paper):
    """The loop is not steady; the paper: a running start."""
    if type(paper) is not tuple or len(paper) != 2:
        return False
    start, turn = paper
    if not is_start(start, greater_degree(machine)) or not is_start(turn, greater_degree(helm)):
        return False
    n, m = machine
    a, b = helm
    under = closed(machine, helm)
    y = plus(times(n, turn), times(b, start))
    u = minus(times(m, turn), times(a, start))
    return not goes_out(y, under) or not goes_out(u, under)


def can_be_steadied_shown(machine, paper):
    """Some helm steadies the machine; the paper: such a helm."""
    return is_steadying(paper, machine)


def cannot_be_steadied_shown(machine, paper):
    """None does; the paper: a row that is not steady and divides both rows of the machine."""
    return divides_both(paper, machine) and not is_steady(paper)


def of_free_shown(machine, helm, free, paper):
    """The helm steadies the machine and has this free answer."""
    return is_nothing(paper) and closes_steadily(machine, helm) and free_answer(machine, helm) == free


def closed_by_shown(machine, wished, paper):
    """Some helm has this closing row; the paper: such a helm."""
    return is_helm(paper) and closed(machine, paper) == wished


def never_closed_by_shown(machine, wished, paper):
    """None has; the paper: a row that divides both rows of the machine, but not this one."""
    return divides_both(paper, machine) and not is_divisor(paper, wished)


def over_shown(machine, number, paper):
    """The machine is over after so many beats at the earliest; the paper: a helm with which it is."""
    return is_helm(paper) and last_beat(machine, paper) == number and fewest_beats(machine) == number


def never_over_shown(machine, paper):
    """It never is; the paper: a row of a degree above 0 that divides both of its rows."""
    return divides_both(paper, machine) and len(paper) > 1


def follows_shown(machine, helm, rule, paper):
    """The helm steadies the machine and follows the rule."""
    return is_nothing(paper) and closes_steadily(machine, helm) and follows(machine, helm, rule)


def does_not_follow_shown(machine, helm, rule, paper):
    """It steadies it and does not follow; the paper: the start of a goal whose error does not come to 0."""
    if not is_start(paper, len(rule) - 1) or not closes_steadily(machine, helm):
        return False
    return not goes_out(times(times(machine[1], helm[1]), paper), times(closed(machine, helm), rule))


def can_follow_shown(machine, rule, paper):
    """Some helm that steadies the machine follows the rule; the paper: such a helm."""
    return is_steadying(paper, machine) and follows(machine, paper, rule)


def none_follows_shown(machine, rule, paper):
    """There is no such helm."""
    return is_nothing(paper) and not can_follow(machine, rule)


def error_of_one_shown(machine, answer, paper):
    """The answer is the error of some helm that steadies the machine; the paper: such a helm."""
    return is_steadying(paper, machine) and error_answer(machine, paper) == answer


def error_of_none_shown(machine, answer, paper):
    """It is that of none."""
    return is_nothing(paper) and helm_with_error(machine, answer) is None


def sum_fixed_shown(machine, x, value, paper):
    """The sum of S_k x^k is this one for all helms that steady the machine, and some does."""
    return is_nothing(paper) and can_be_steadied(machine) and fixed_sum(machine, x) == value


def sum_free_shown(machine, x, value, paper):
    """The sum is free; the paper: a helm that steadies the machine, with this sum."""
    if not is_steadying(paper, machine) or fixed_sum(machine, x) is not None:
        return False
    top, under = error_answer(machine, paper)
    return worth_of(top, x) == ratio_product(value, worth_of(under, x))


def worst_within_shown(answer, low, high, paper):
    """The answer is steady and its worst is from low up to high; the paper: a row that bounds it so."""
    return is_bound(answer, low, high, paper)


def reaches(aims, row, value):
    """Whether a row leads to what is wanted of T, with this sum of sizes."""
    if size_sum(row) != value or any(number != NIL for number in row[:aims.first]):
        return False
    return all(worth_of(row, x) == (wanted, 1) for x, wanted in zip(aims.zeros, aims.wanted))


def least_worst_shown(machine, value, paper):
    """The machine is told, and this is its least worst; the paper: a row T and weights."""
    aims = told_aims(machine)
    if aims is None or type(paper) is not tuple or len(paper) != 2:
        return False
    row, weights = paper
    if not is_row(row) or not reaches(aims, row, value) or not weigh(aims, weights):
        return False
    total = NIL
    for weight, wanted in zip(weights, aims.wanted):
        total = ratio_sum(total, ratio_product(weight, (wanted, 1)))
    return total == value


def steady_helm_shown(machine, paper):
    """Some helm (a, b) with a steady b steadies the machine."""
    return is_nothing(paper) and can_be_steadied(machine) and has_steady_helm(machine)


def no_steady_helm_shown(machine, paper):
    """Some helm steadies it, but none with a steady b; the paper: a parting stretch."""
    return can_be_steadied(machine) and is_parting(machine, paper)


def are_steadied(machine, other):
    """Whether each of two machines can be steadied."""
    return can_be_steadied(machine) and can_be_steadied(other)


def one_for_both_shown(machine, other, paper):
    """Both can be steadied, and one helm steadies both."""
    return is_nothing(paper) and are_steadied(machine, other) and one_for_both(machine, other)


def none_for_both_shown(machine, other, paper):
    """Both can be steadied, and no helm steadies both; the paper: a parting stretch of their difference."""
    if not are_steadied(machine, other):
        return False
    difference = difference_of(machine, other)
    return difference[0] != () and is_parting(difference, paper)


# The kinds of the parts behind the first one.
KINDS = {
    "bends": ("row", "bends"),
    "unsteady": ("row",),
    "loop steady": ("machine", "helm"),
    "runs away": ("machine", "helm"),
    "can be steadied": ("machine",),
    "cannot be steadied": ("machine",),
    "of free": ("machine", "helm", "answer"),
    "closed by": ("machine", "led row"),
    "never closed by": ("machine", "led row"),
    "over": ("machine", "whole"),
    "never over": ("machine",),
    "follows": ("machine", "helm", "rule"),
    "does not follow": ("machine", "helm", "rule"),
    "can follow": ("machine", "rule"),
    "none follows": ("machine", "rule"),
    "error of one": ("machine", "answer"),
    "error of none": ("machine", "answer"),
    "sum fixed": ("machine", "inner fraction", "fraction"),
    "sum free": ("machine", "inner fraction", "fraction"),
    "worst within": ("answer", "fraction", "fraction"),
    "least worst": ("machine", "fraction"),
    "steady helm": ("machine",),
    "no steady helm": ("machine",),
    "one for both": ("machine", "machine"),
    "none for both": ("machine", "machine"),
}

SHOWN = {
    "bends": bends_shown,
    "unsteady": unsteady_shown,
    "loop steady": loop_steady_shown,
    "runs away": runs_away_shown,
    "can be steadied": can_be_steadied_shown,
    "cannot be steadied": cannot_be_steadied_shown,
    "of free": of_free_shown,
    "closed by": closed_by_shown,
    "never closed by": never_closed_by_shown,
    "over": over_shown,
    "never over": never_over_shown,
    "follows": follows_shown,
    "does not follow": does_not_follow_shown,
    "can follow": can_follow_shown,
    "none follows": none_follows_shown,
    "error of one": error_of_one_shown,
    "error of none": error_of_none_shown,
    "sum fixed": sum_fixed_shown,
    "sum free": sum_free_shown,
    "worst within": worst_within_shown,
    "least worst": least_worst_shown,
    "steady helm": steady_helm_shown,
    "no steady helm": no_steady_helm_shown,
    "one for both": one_for_both_shown,
    "none for both": none_for_both_shown,
}


def is_row_kind(kind, value):
    """Whether a value, whatever it is, is a row of this kind."""
    if kind == "row":
        return is_filled_row(value)
    if kind == "led row":
        return is_led_row(value)
    return is_rule(value)


def is_number_kind(kind, value):
    """Whether a value, whatever it is, is a number, or bends, of this kind."""
    if kind == "whole":
        return is_whole(value)
    if kind == "bends":
        return are_bends(value)
    return is_fraction(value) if kind == "fraction" else is_inner(value)


def is_kind(kind, value):
    """Whether a value, whatever it is, is of this kind."""
    if kind == "machine":
        return is_machine(value)
    if kind == "helm":
        return is_helm(value)
    if kind == "answer":
        return is_answer(value)
    if kind in ("row", "led row", "rule"):
        return is_row_kind(kind, value)
    return is_number_kind(kind, value)


def is_claim(value):
    """Whether a value, whatever it is, is a claim, so or not."""
    if type(value) is not tuple or len(value) == 0 or type(value[0]) is not str:
        return False
    kinds = KINDS.get(value[0])
    if kinds is None or len(kinds) != len(value) - 1:
        return False
    return all(is_kind(kind, part) for kind, part in zip(kinds, value[1:]))


def accepts(claim, paper):
    """Whether a value is a claim, and another one a paper for it, whatever both are."""
    if not is_claim(claim):
        return False
    shown = SHOWN[claim[0]]
    parts = claim[1:]
    return shown(*parts, paper)

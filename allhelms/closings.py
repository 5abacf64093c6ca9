"""What machines and helms come to; both are taken for granted here, and nothing is checked."""

from allhelms.sums import (UNIT, inverse_in, minus, plus, quotient_of, shared_part, split_row,
                           times)


def greater_degree(pair):
    """The size of a machine or a helm."""
    # The second row of both is never (), so () counts as of the degree 0 by itself.
    return max(len(pair[0]), len(pair[1])) - 1


def shared_by(pair):
    """The common divisor of both rows of a machine or a helm."""
    return shared_part(pair[0], pair[1])


def without(pair, part):
    """A machine or a helm without a row that divides both of its rows."""
    return quotient_of(pair[0], part), quotient_of(pair[1], part)


def closed(machine, helm):
    """The closing row of a machine and a helm."""
    return plus(times(machine[1], helm[1]), times(machine[0], helm[0]))


def closing_helm(core, wished):
    """The least helm for a closing row of a machine whose rows have no common divisor."""
    n, m = core
    # Below the degree 0 there is () alone, and no inverse is asked for.
    turn = inverse_in(n, m) if len(m) > 1 else ()
    a = split_row(times(turn, wished), m)[1]
    return a, quotient_of(minus(wished, times(n, a)), m)


def base_of(core):
    """The base helm of a machine whose rows have no common divisor."""
    return closing_helm(core, UNIT)

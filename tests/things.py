"""Machines, helms and rules for the tests, values that are none, and beats reckoned one by one."""

from fractions import Fraction

from tests.tools import (NIL, NO_ROWS, NO_TUPLES, ONE, SLOW, SPRING, TWO, WILD, deep, plain,
                         plain_product, row)

KEEP, TURN = row(1, -1), row(1, 0, 1)
CART = (row(0, 1), WILD)
BACK = (row(0, 1, -2), KEEP)
STUCK = (row(0, 1, -2), WILD)
DEAF = (row(0, 1, -1), WILD)
SHY = (row(0, 1, -4), WILD)
ODD = (row(0, 1, Fraction(-4, 3)), WILD)
LATE = (row(0, 0, 0, 3), row(1, Fraction(5, 2)))
HEAVY = (row(0, 2), row(1, Fraction(-9, 2), Fraction(9, 2), 1))
CALM = (row(0, 1, 1), row(1))
TWICE = (row(0, 1), row(1, -4, 4))
LONG = (row(0, 1, Fraction(1, 3), -2), row(1, 1, 1, 1, 5))
VAST = (row(0, 10 ** 40, Fraction(1, 10 ** 25)), row(1, Fraction(10 ** 30, 7), 3))

CORES = [CART, BACK, DEAF, SHY, ODD, LATE, HEAVY, CALM, TWICE, LONG, VAST]


def grown(pair, part):
    """A machine or a helm, both rows times a led one."""
    return plain_product(pair[0], part), plain_product(pair[1], part)


STEADY_PARTS = [SLOW, SPRING, plain_product(SLOW, SPRING), row(1, Fraction(1, 10 ** 20))]
UNSTEADY_PARTS = [WILD, KEEP, row(1, 1), TURN, plain_product(SLOW, WILD), row(1, 10 ** 30)]
HIDING = [grown(machine, part) for machine in (CART, BACK, LATE, CALM, LONG) for part in STEADY_PARTS]
LOST = [STUCK] + [grown(machine, part) for machine in (CART, BACK, LATE, CALM) for part in UNSTEADY_PARTS]
MACHINES = CORES + HIDING + LOST

HAND, IDLE = (row(2), row(1)), ((), row(1))
HELMS = [HAND, IDLE, (row(-1), row(1, 2)), (row(3, -2), KEEP), (row(0, 1, 2), row(1, -1, Fraction(1, 3))),
         ((), row(1, 3)), ((), SLOW), (row(1, 0, 0, 5), row(1)), (row(Fraction(3, 2)), row(1)),
         (row(10 ** 35, 2), row(1, Fraction(1, 10 ** 30))), grown(HAND, SLOW), grown(HAND, KEEP),
         grown(HAND, WILD), grown((row(-1), row(1, 2)), SPRING), grown(((), row(1)), row(1, 1))]

RULES = [KEEP, row(1, 1), WILD, SLOW, TURN, row(1, -2, 1), plain_product(KEEP, SLOW), row(1, -3, 2),
         plain_product(WILD, WILD), row(1, -4), row(1, Fraction(-4, 3)), row(1, 10 ** 30),
         plain_product(SPRING, SLOW), plain_product(row(1, -3, 2), TURN)]

NO_LED_ROWS = NO_ROWS + [(), row(2), row(-1), row(0, 1), row(2, 1), row(-1, 1), row(Fraction(1, 2))]
NO_RULES = NO_LED_ROWS + [row(1)]

NO_PAIRS = NO_TUPLES + [
    (), (ONE,), (row(0, 1),), (row(0, 1), WILD, WILD), (row(0, 1), WILD, None), [row(0, 1), WILD],
    (list(row(0, 1)), WILD), (row(0, 1), list(WILD)), row(0, 1), WILD, deep(14), (deep(13), deep(13)),
    (None, WILD), (row(0, 1), None), (row(0, 1), ()), (row(0, 1), row(2)), (row(0, 1), row(2, 1)),
    (row(0, 1), row(-1, 1)), (row(0, 1), row(0, 1)), ((NIL, ONE, NIL), WILD), (row(0, 1), (ONE, NIL)),
    (row(0, 1), ((True, 1),)), (row(0, 1), ((1, True), TWO)), ((NIL, (2, 4)), WILD), (row(0, 1), (ONE, (2, 4))),
    ((NIL, (1, -1)), WILD), (row(0, 1), ((2, 2),)), (NIL, ONE), ((False, 1), WILD), "ab", ("ab", "cd"),
    (((False, 1), ONE), WILD), ({}, WILD), (row(0, 1), {}),
]
NO_HELMS = NO_PAIRS + [(value, WILD) for value in NO_ROWS] + [(row(0, 1), value) for value in NO_LED_ROWS]
NO_MACHINES = NO_HELMS + [
    (WILD, row(0, 1)), ((), WILD), ((), row(1)), (row(1), row(1)), (row(1, 1), WILD), (row(-1, 1), WILD),
    (row(Fraction(1, 2), 1), WILD), (WILD, WILD), (row(2), row(1)),
]


def beats(machine, helm, goal, push, start, turn):
    """What is shown and told beat by beat, by the definitions of machines and helms.

    `goal` and `push` are lists of numbers, as many as beats are asked for.
    """
    n, m, a, b, s, t = [plain(value) for value in machine + helm + (start, turn)]
    y, u = [], []
    for k in range(len(goal)):
        # n begins with 0: what the machine shows needs nothing that is told at this beat.
        y.append(at(s, k) + sum(n[i] * (u[k - i] + push[k - i]) for i in range(1, min(k + 1, len(n))))
                 - sum(m[i] * y[k - i] for i in range(1, min(k + 1, len(m)))))
        u.append(at(t, k) + sum(a[i] * (goal[k - i] - y[k - i]) for i in range(min(k + 1, len(a))))
                 - sum(b[i] * u[k - i] for i in range(1, min(k + 1, len(b)))))
    return y, u


def at(numbers, k):
    """The number k of a list, 0 beyond its end."""
    return numbers[k] if k < len(numbers) else Fraction(0)


def delay(many):
    """The row of the delay by so many beats."""
    return row(*([0] * many + [1]))


def sides(size):
    """Starts of all degrees below a size, () among them."""
    rows = [()] + [delay(k) for k in range(size)]
    if size > 0:
        rows.append(row(*[Fraction(-k - 1, k + 2) for k in range(size)]))
    return rows


def plain_size(pair):
    """The size of a machine or a helm, by the definition."""
    return max(len(value) - 1 if value else 0 for value in pair)

"""Sums w_1 x_1^k + w_2 x_2^k + .. of weighed powers of fractions, beat by beat.

The fractions x_j are told as whole numbers, the marks, over one common unit.
"""

from math import lcm

from allhelms.ratios import powered
from allhelms.sums import cleared

# So many bits tell which of two sums is greater, well enough to choose by.
FINE_BITS = 64

# So many beats are looked at, at least, for a sum that is farther beyond.
SPARE_BEATS = 32


class Aims:
    """Fractions x_j other than 0, of sizes below 1, no two equal, the sums wanted there, and the first beat."""

    def __init__(self, zeros, wanted, first):
        self.unit = 1
        for zero in zeros:
            self.unit = lcm(self.unit, zero[1])
        self.zeros = zeros
        self.marks = [number * (self.unit // part) for number, part in zeros]
        self.wanted = wanted
        self.first = first


def solved(rows, many):
    """The right sides, as many rows, of equations that have just one solution, and what they are over.

    Each row holds `many` numbers and behind them those on the right; all are whole.
    """
    under = 1
    for at in range(many):
        pick = at
        while rows[pick][at] == 0:
            pick += 1
        rest = rows[at:pick] + rows[pick + 1:]
        top = rows[pick]
        rows = rows[:at] + [top] + rest
        # Each number is a determinant of the first equations, so the division leaves no rest (Bareiss).
        rows = [row if k == at else taken(row, top, at, under) for k, row in enumerate(rows)]
        under = top[at]
    if under < 0:
        return [[-x for x in row[many:]] for row in rows], -under
    return [row[many:] for row in rows], under


def taken(row, top, at, under):
    """A row without what another one has at a place, both times numbers over one."""
    return [(top[at] * x - row[at] * y) // under for x, y in zip(row, top)]


def unit_at(aims, beat):
    """The unit to the power of a beat."""
    return powered(aims.unit, beat)


def marks_at(aims, beat):
    """The marks to the power of a beat."""
    return [powered(mark, beat) for mark in aims.marks]


def first_beats(aims):
    """As many beats as there are fractions, from the first one on."""
    return list(range(aims.first, aims.first + len(aims.marks)))


def beyond(aims, weights, end, first):
    """A beat from the first one on, below the end, None for no end, at which the sum of the weights is beyond 1.

    The beat and the sign of the sum there: the first such beat or, if not `first`, one of those that
    are far beyond; None if there is none. The weights are whole numbers over one.
    """
    numbers, under = weights
    here = [number * power for number, power in zip(numbers, marks_at(aims, aims.first))]
    over = under * unit_at(aims, aims.first)
    beat, found, most = aims.first, None, 0
    # When the sum of sizes is not beyond 1, no later sum is.
    while (end is None or beat < end) and sum([abs(x) for x in here]) > over:
        whole = sum(here)
        if abs(whole) > over:
            size = (abs(whole) << FINE_BITS) // over
            if size > most:
                found, most = (beat, 1 if whole > 0 else -1), size
        if found is not None and (first or beat > 2 * found[0] + SPARE_BEATS):
            return found
        here = [x * mark for x, mark in zip(here, aims.marks)]
        over = over * aims.unit
        beat += 1
    return found


def are_within(aims, weights):
    """Whether the sums of the weights, fractions, are of a size of at most 1 at all beats from the first one on."""
    return beyond(aims, cleared(weights), None, True) is None


def quiet_beat(aims):
    """A beat from which on no weights are beyond 1 that are not so at the first beats."""
    beats = first_beats(aims)
    many = len(beats)
    rows = []
    for at, beat in enumerate(beats):
        right = [0] * many
        right[at] = unit_at(aims, beat)
        rows.append(marks_at(aims, beat) + right)
    found, under = solved(rows, many)
    end = beats[-1] + 1
    for row, mark in zip(found, aims.marks):
        # The sums at the first beats being of sizes up to 1, this weight is below 2 ** bits / many, and
        # x ** k is below 2 ** - bits if k times 1 - x is at least that, x being a size.
        bits = (many * sum([abs(x) for x in row]) // under + 1).bit_length()
        end = max(end, bits * aims.unit // (aims.unit - abs(mark)) + 1)
    return end

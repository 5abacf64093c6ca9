"""The least sum of sizes of numbers T_k, k from a first beat on, whose sums of T_k x_j^k are given.

The least sum is reached by as few numbers as there are fractions x_j. From one such
choice of beats to the next one the sum falls, or stays for a while (the simplex method),
until the weights that belong to the beats are nowhere beyond 1: these show that
there is no lesser sum.
"""

from allhelms.powers import beyond, first_beats, marks_at, quiet_beat, solved, unit_at
from allhelms.ratios import ratio
from allhelms.sums import trimmed


def numbers_at(aims, beats, rights):
    """For each beat the solutions of the right sides, so many for each fraction, and what they are over.

    They are told times the unit to the power of the beat.
    """
    powers = [marks_at(aims, beat) for beat in beats]
    rows = [[power[at] for power in powers] + right for at, right in enumerate(rights)]
    return solved(rows, len(beats))


def wanted_rights(aims):
    """The sums that are wanted, each as a right side."""
    return [[number] for number in aims.wanted]


def weights_of(aims, beats, signs):
    """The weights, whole numbers over one, whose sums at some beats are just their signs."""
    rows = [marks_at(aims, beat) + [sign * unit_at(aims, beat)] for beat, sign in zip(beats, signs)]
    found, under = solved(rows, len(beats))
    return [row[0] for row in found], under


def leaving(aims, beats, signs, found):
    """Which beat makes room for the one found, and whether the sum of sizes stays."""
    beat, sign = found
    rights = [[number, sign * power] for number, power in zip(aims.wanted, marks_at(aims, beat))]
    best, least, by = None, 0, 1
    for at, row in enumerate(numbers_at(aims, beats, rights)[0]):
        size, fall = signs[at] * row[0], signs[at] * row[1]
        if fall <= 0:
            continue
        # Of several the one with the first beat: so no choice of beats comes back (Bland).
        ahead = size * by - least * fall
        if best is None or ahead < 0 or (ahead == 0 and beats[at] < beats[best]):
            best, least, by = at, size, fall
    return best, least == 0


def replaced(numbers, at, number):
    """A list with another number at a place."""
    return numbers[:at] + [number] + numbers[at + 1:]


def balanced(aims):
    """The beats of numbers with the least sum of sizes, and weights that show it, whole numbers over one."""
    beats = first_beats(aims)
    found = numbers_at(aims, beats, wanted_rights(aims))[0]
    signs = [1 if row[0] >= 0 else -1 for row in found]
    end = quiet_beat(aims)
    stays = False
    while True:
        weights = weights_of(aims, beats, signs)
        # While the sum stays, the first beat beyond is taken, otherwise one that is far beyond.
        better = beyond(aims, weights, end, stays)
        if better is None:
            return beats, weights
        at, stays = leaving(aims, beats, signs, better)
        beats = replaced(beats, at, better[0])
        signs = replaced(signs, at, better[1])


def least_numbers(aims):
    """A row with the least sum of sizes."""
    if sum(aims.wanted) == 0:
        return ()
    beats = balanced(aims)[0]
    found, under = numbers_at(aims, beats, wanted_rights(aims))
    told = [(0, 1)] * (max(beats) + 1)
    for beat, row in zip(beats, found):
        told[beat] = ratio(row[0] * unit_at(aims, beat), under)
    return trimmed(told)


def greatest_weights(aims):
    """Weights, fractions, nowhere beyond 1, whose sum over the sums wanted is the least sum of sizes."""
    if sum(aims.wanted) == 0:
        return tuple([(0, 1) for _ in aims.zeros])
    numbers, under = balanced(aims)[1]
    return tuple([ratio(number, under) for number in numbers])

"""The least worst: machines that are told, rows that reach it, weights that show it, helms."""

import random
import unittest
from fractions import Fraction
from math import lcm

from allhelms.helms import base_helm, helm_of
from allhelms.least import (are_weights, calmest_helm, is_told, least_row, least_worst, told_zeros, worst_weights)
from allhelms.limits import error_answer
from allhelms.loops import is_steady_loop
from allhelms.rows import common_divisor
from allhelms.worst import worst_near
from tests.things import BACK, CALM, CART, DEAF, HEAVY, KEEP, LATE, LOST, ODD, SHY, STUCK, TURN, TWICE, delay, grown
from tests.tools import (HALF, NIL, ONE, SLOW, SPRING, TWO, WILD, is_plain_row, pair, plain, plain_product, plain_sum,
                         plain_worth, row, some_rows)

VAST = 10 ** 40


def with_zeros(*zeros):
    """The row 1 - .. with these zeros."""
    told = row(1)
    for zero in zeros:
        told = plain_product(told, row(1, -1 / Fraction(zero)))
    return told


class Case:
    """A machine that is told, made from its zeros: r, those of n' and those of m', and steady parts of both."""

    def __init__(self, late, noughts, ones, more=(row(1), row(1)), part=row(1)):
        self.late = late
        self.wanted = {Fraction(x): 0 for x in noughts}
        self.wanted.update({Fraction(x): 1 for x in ones})
        n = plain_product(plain_product(delay(late), with_zeros(*noughts)), more[0])
        m = plain_product(with_zeros(*ones), more[1])
        self.core = (n, m)
        self.machine = grown(self.core, part)


F = Fraction
CASES = [
    Case(1, [], []), Case(3, [], [], (SLOW, SPRING)), Case(1, [F(1, 2)], [], (row(5), SLOW)),
    Case(1, [F(1, 2), F(-1, 3), F(1, 7)], [], (row(1), SPRING)), Case(2, [], [], (row(-7), row(1)), SPRING),
    Case(1, [], [F(1, 2)]), Case(1, [], [F(-1, 2)]), Case(4, [], [F(2, 3)]), Case(1, [], [F(99, 100)]),
    Case(1, [], [F(1, 2), F(-1, 2)]), Case(2, [], [F(1, 2), F(1, 3)]), Case(1, [], [F(1, 2), F(2, 3), F(3, 4)]),
    Case(1, [], [F(1, 2), F(-2, 3), F(1, 4)], (SLOW, SPRING), plain_product(SLOW, SPRING)),
    Case(1, [F(1, 4)], [F(1, 2)]), Case(1, [F(3, 4)], [F(1, 2)]), Case(1, [F(9, 10)], [F(1, 2)]),
    Case(1, [F(1, 2)], [F(9, 10)]), Case(3, [F(1, 2)], [F(-1, 2)]), Case(1, [F(-3, 4)], [F(1, 2)]),
    Case(1, [F(19, 20)], [F(18, 20)]), Case(2, [F(4, 5)], [F(5, 6)], (SPRING, SLOW), SLOW),
    Case(1, [F(1, 2), F(1, 3)], [F(2, 3)]), Case(1, [F(1, 2), F(-1, 2)], [F(2, 3)], (row(3), row(1))),
    Case(1, [F(1, 2)], [F(2, 3), F(3, 4)]), Case(5, [F(2, 3), F(-1, 3)], [F(1, 2)]),
    Case(1, [F(1, 2), F(-3, 4)], [F(2, 3), F(-1, 4)]), Case(1, [F(1, 3)], [F(1, 2), F(-1, 2)], (SLOW, row(1)), SPRING),
    Case(1, [F(1, VAST)], [F(1, 2)]), Case(1, [], [F(1, VAST)]),
    Case(1, [F(VAST - 1, 3 * VAST)], [F(1, 2), F(7, VAST)]),
    Case(2, [F(1, VAST + 1)], [F(1, VAST)], (row(VAST), row(1, F(1, VAST)))),
    # Zeros so near to the round that their powers stay near to 1 for longer than anybody looks.
    Case(1, [1 - F(1, 10 ** 25)], [F(1, 2)]), Case(1, [], [1 - F(1, 10 ** 30), F(-1, 3)], (SLOW, SPRING)),
]

NOT_TOLD = [
    BACK, DEAF, TWICE, (row(0, 1, 1), WILD), (row(0, 1), row(1, 1)), (row(0, 1), TURN), (row(0, 1), row(1, 1, 1)),
    # Twice, in n' or in m', or as a divisor of a zero of higher degree.
    (plain_product(row(0, 1), with_zeros(F(1, 3), F(1, 3))), WILD), (row(0, 1), with_zeros(F(1, 2), F(2, 3), F(1, 2))),
    # No fractions: + - 1 / sqrt 2, near to fractions, not real, on the round.
    (row(0, 1), row(1, 0, -2)), (row(0, 1, 0, -2), WILD), (row(0, 1), row(1, -3, 1)), (row(0, 1, 0, 4), WILD),
    (row(0, 1), row(1, 0, 4)), (row(0, 1), row(1, 0, 1)), (row(0, 1), row(1, 0, 0, 8)), (row(0, 5, 6, 5), SLOW),
    (row(0, 1), plain_product(WILD, row(1, 0, -2))), (row(0, 1, -2), plain_product(row(1, -3), KEEP)),
    (row(0, 1), row(1, 0, -(VAST * VAST + 1))), (grown(BACK, SLOW)), (grown(TWICE, SPRING)),
]


def total(value):
    """The sum of sizes."""
    return sum(abs(number) for number in plain(value))


def sums_of(weights, zeros, first, many):
    """The sums of w_j x_j^k, k from the first beat on, so many, over one whole number each: (number, over)."""
    unit = lcm(1, *[x.denominator for x in zeros])
    under = lcm(1, *[w.denominator for w in weights])
    marks = [x.numerator * (unit // x.denominator) for x in zeros]
    numbers = [w.numerator * (under // w.denominator) * mark ** first for w, mark in zip(weights, marks)]
    over = under * unit ** first
    for _ in range(many):
        yield sum(numbers), over
        numbers = [number * mark for number, mark in zip(numbers, marks)]
        over *= unit


class Told(unittest.TestCase):

    def test_told(self):
        for case in CASES:
            with self.subTest(machine=case.machine):
                self.assertIs(is_told(case.machine), True)
                self.assertIs(is_told(machine=case.machine), True)
                zeros = tuple(pair(x) for x in sorted(case.wanted))
                self.assertEqual(told_zeros(case.machine), zeros)
                self.assertEqual(told_zeros(machine=case.machine), zeros)
        for machine in (CART, SHY, ODD, CALM, HEAVY) + (LATE,):
            self.assertIs(is_told(machine), machine not in (HEAVY, CALM))

    def test_not_told(self):
        for machine in NOT_TOLD + LOST:
            with self.subTest(machine=machine):
                self.assertIs(is_told(machine), False)

    def test_what_is_steady_does_not_count(self):
        # Steady zeros twice, no fractions, not real.
        for part in (plain_product(SLOW, SLOW), row(1, 0, F(-1, 2)), SPRING,
                     plain_product(row(1, F(1, 3)), row(1, F(1, 3)))):
            for machine in ((plain_product(row(0, 1, -4), part), WILD), (row(0, 1, -4), plain_product(WILD, part)),
                            grown(SHY, part)):
                with self.subTest(machine=machine):
                    self.assertIs(is_told(machine), True)
                    self.assertEqual(told_zeros(machine), ((1, 4), HALF))
                    self.assertEqual(least_worst(machine), (10, 1))

    def test_zeros_near_the_round(self):
        near = F(VAST - 1, VAST)
        self.assertEqual(told_zeros((row(0, 1), with_zeros(near))), (pair(near),))
        self.assertEqual(told_zeros((row(0, 1), with_zeros(1 / near))), ())
        self.assertEqual(told_zeros((row(0, 1), with_zeros(-near))), (pair(-near),))
        self.assertEqual(least_worst((row(0, 1), with_zeros(near))), pair(1 / near))
        self.assertEqual(least_worst((row(0, 1), with_zeros(1 / near))), NIL)


class LeastWorst(unittest.TestCase):

    def test_rows_and_weights(self):
        for case in CASES:
            with self.subTest(machine=case.machine):
                told = least_row(case.machine)
                self.check_row(case, told)
                least = least_worst(case.machine)
                self.assertEqual(least, pair(total(told)))
                weights = worst_weights(case.machine)
                self.assertIs(type(weights), tuple)
                self.check_weights(case, weights)
                # None is better: the sums of the weights tell so.
                zeros = sorted(case.wanted)
                self.assertEqual(sum(F(*w) * case.wanted[x] for w, x in zip(weights, zeros)), F(*least))
                self.assertIs(are_weights(case.machine, weights), True)
                self.assertEqual(least_row(machine=case.machine), told)
                self.assertEqual(least_worst(machine=case.machine), least)
                self.assertEqual(worst_weights(machine=case.machine), weights)

    def check_row(self, case, told):
        """The row is one of some helm that steadies the machine."""
        self.assertTrue(is_plain_row(told))
        self.assertTrue(all(number == NIL for number in told[:case.late]))
        for x, wanted in case.wanted.items():
            self.assertEqual(plain_worth(told, x), wanted)

    def check_weights(self, case, weights):
        """The sums are of sizes of at most 1, until those of sizes are."""
        zeros = sorted(case.wanted)
        self.assertEqual(len(weights), len(zeros))
        numbers = [F(*w) for w in weights]
        sizes = sums_of([abs(w) for w in numbers], [abs(x) for x in zeros], case.late, 4000)
        for (number, over), (size, _) in zip(sums_of(numbers, zeros, case.late, 4000), sizes):
            self.assertLessEqual(abs(number), over)
            if size <= over:
                return
        self.fail("more beats are to be looked at")

    def test_helms(self):
        for case in CASES:
            helm = calmest_helm(case.machine)
            with self.subTest(machine=case.machine):
                self.assertEqual(calmest_helm(machine=case.machine), helm)
                self.assertIs(is_steady_loop(case.machine, helm), True)
                self.assertEqual(len(common_divisor(*helm)), 1)
                error = error_answer(case.machine, helm)
                self.assertEqual(error[1], row(1))
                left = plain_sum(row(1), plain_product(row(-1), error[0]))
                self.check_row(case, left)
                least = least_worst(case.machine)
                self.assertEqual(pair(total(left)), least)
                # What is left of a goal is worse by 1.
                worse = pair(F(*least) + 1)
                self.assertEqual(worst_near(error, 1), (worse, worse))

    def test_no_other_helm_is_better(self):
        for case in CASES:
            least = F(*least_worst(case.machine))
            for value in some_rows(8, 6, 3, 3):
                error = error_answer(case.machine, helm_of(case.machine, (value, row(1))))
                top = plain_sum(error[1], plain_product(row(-1), error[0]))
                high = worst_near((top, error[1]), 1000)[1] if top != () else NIL
                self.assertGreaterEqual(F(*high), least)

    def test_by_hand(self):
        self.assertEqual(least_worst(CART), TWO)
        self.assertEqual(calmest_helm(CART), base_helm(CART))
        # Later by beats: the same zero, seen so many beats later.
        for late in range(1, 6):
            case = Case(late, [], [F(2, 3)])
            self.assertEqual(least_worst(case.machine), pair(F(3, 2) ** late))
            self.assertEqual(least_row(case.machine), row(*([0] * late + [F(3, 2) ** late])))
            self.assertEqual(worst_weights(case.machine), (pair(F(3, 2) ** late),))
        # One at 1 / 2 and at - 1 / 2: an even number of beats does for both.
        case = Case(1, [], [F(1, 2), F(-1, 2)])
        self.assertEqual(least_worst(case.machine), (4, 1))
        self.assertEqual(least_row(case.machine), row(0, 0, 4))
        self.assertEqual(least_worst(SHY), (10, 1))
        self.assertEqual(least_worst(ODD), (182, 19))
        self.assertEqual(least_worst(grown(ODD, SPRING)), (182, 19))
        self.assertEqual(least_row(Case(2, [F(1, 3)], []).machine), ())

    def test_random_machines(self):
        source = random.Random(11)
        places = sorted({F(source.randint(-19, 19), 20) for _ in range(40)} - {F(0)})
        for _ in range(25):
            chosen = source.sample(places, source.randint(2, 5))
            many = source.randint(1, len(chosen) - 1)
            case = Case(source.randint(1, 3), chosen[many:], chosen[:many])
            told, weights = least_row(case.machine), worst_weights(case.machine)
            with self.subTest(machine=case.machine):
                self.check_row(case, told)
                self.check_weights(case, weights)
                zeros = sorted(case.wanted)
                self.assertEqual(sum(F(*w) * case.wanted[x] for w, x in zip(weights, zeros)), total(told))

    def test_hard_ones(self):
        for case in (Case(5, [F(999, 1000)], [F(998, 1000)]), Case(1, [F(98, 100), F(97, 100)], [F(99, 100)])):
            told, weights = least_row(case.machine), worst_weights(case.machine)
            self.assertGreater(len(told), 100)
            self.check_row(case, told)
            zeros = sorted(case.wanted)
            self.assertEqual(sum(F(*w) * case.wanted[x] for w, x in zip(weights, zeros)), total(told))
            self.assertIs(are_weights(case.machine, weights), True)


class Weights(unittest.TestCase):

    def test_just_too_great_in_one_beat(self):
        for case in CASES:
            zeros = sorted(case.wanted)
            if not zeros:
                self.assertIs(are_weights(case.machine, ()), True)
                self.assertIs(are_weights(value=(NIL,), machine=case.machine), False)
                continue
            for weights in ([F(k + 1, k + 2) for k in range(len(zeros))], [F((-1) ** k * 7) for k in range(len(zeros))],
                            [F(*w) if F(*w) else F(1) for w in worst_weights(case.machine)]):
                sums = [F(abs(number), over) for number, over in sums_of(weights, zeros, case.late, 150)]
                most = max(sums)
                # Beyond those there is nothing as great: the sizes of x_j leave too little.
                if most == 0 or sum(abs(w) * abs(x) ** (case.late + 150) for w, x in zip(weights, zeros)) > most:
                    continue
                for grow, wanted in ((F(1), True), (1 + F(1, VAST), False), (1 - F(1, VAST), True), (F(-1), True),
                                     (-1 - F(1, VAST), False), (F(VAST), False), (F(1, 2), True)):
                    value = tuple(pair(w / most * grow) for w in weights)
                    with self.subTest(machine=case.machine, value=value):
                        self.assertIs(are_weights(case.machine, value), wanted)
                        self.assertIs(are_weights(value=value, machine=case.machine), wanted)

    def test_too_great_at_a_late_beat_alone(self):
        # w (x_2^k - x_1^k) is 0 at 0 and the greatest at some later beat.
        case = Case(1, [F(9, 10)], [F(19, 20)])
        sums = [F(abs(number), over) for number, over in sums_of([F(-1), F(1)], sorted(case.wanted), 1, 60)]
        most = max(sums)
        self.assertGreater(sums.index(most), 8)
        self.assertEqual(sums.count(most), 1)
        for grow, wanted in ((F(1), True), (1 + F(1, VAST), False)):
            value = (pair(-grow / most), pair(grow / most))
            self.assertIs(are_weights(case.machine, value), wanted)

    def test_first_beats_do_not_count(self):
        # 0 is a zero of n' four times: sums from the beat 4 on.
        case = Case(4, [], [F(1, 2)])
        self.assertIs(are_weights(case.machine, ((16, 1),)), True)
        self.assertIs(are_weights(case.machine, ((-16, 1),)), True)
        self.assertIs(are_weights(case.machine, (pair(16 + F(1, VAST)),)), False)

    def test_other_values(self):
        for value in (((2, 1), NIL), (NIL, (2, 1), NIL), (), [NIL, TWO], (NIL, [2, 1]), (NIL, (4, 2)), (NIL, 2),
                      (NIL, (True, 1)), (NIL, None), (NIL, (2, 1), (2, 1)), ((ONE, ONE),), ("", "")):
            self.assertIs(are_weights(SHY, value), value == (TWO, NIL))
        self.assertIs(are_weights(SHY, (NIL, TWO)), True)
        self.assertIs(are_weights(SHY, (NIL, (-2, 1))), True)
        self.assertIs(are_weights(STUCK[:1] + (row(1, -3),), ((3, 1), NIL)), True)

    def test_vast_weights(self):
        # They cancel at the first beats, but not later.
        case = Case(1, [F(1, 2)], [F(1, 3), F(1, 4)])
        self.assertIs(are_weights(case.machine, ((VAST, 1), (-3 * VAST, 1), (VAST, 1))), False)
        self.assertIs(are_weights(case.machine, ((1, VAST), (-3, VAST), (1, VAST))), True)


if __name__ == "__main__":
    unittest.main()

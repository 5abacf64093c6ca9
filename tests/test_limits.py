"""Limits: errors that some helm leaves, sums that all have in common, dips and peaks."""

import unittest
from fractions import Fraction

from allhelms.answers import first_numbers, is_answer
from allhelms.helms import base_helm, helm_of
from allhelms.limits import (error_answer, fixed_sum, helm_with_error, helm_with_sum, is_error, least_dip,
                             least_peak)
from allhelms.loops import closing_row, is_steady_loop, shown
from allhelms.machines import core_of, is_helm
from allhelms.rows import common_divisor, parted
from tests.things import BACK, CART, CORES, HAND, HELMS, HIDING, LOST, SHY, STUCK, TWICE, beats, grown
from tests.tools import (HALF, LESS, NIL, ONE, SLOW, SPRING, TWO, WILD, pair, plain, plain_product, plain_sum,
                         plain_worth, row, some_rows)

FREES = [((), row(1)), (row(1), row(1)), (row(0, -2), SLOW), (row(3, -1), SPRING), (row(10 ** 30, 0, 1), row(1)),
         (row(1), row(1, Fraction(1, 10 ** 20))), (row(1, 1, 1), plain_product(SLOW, SPRING))]
GOOD = CORES + HIDING[::2]
STEP = (row(1), row(1, -1))
SILENT = ((), row(1))


def helms_for(machine):
    """Helms that steady a machine, with and without common divisors."""
    helms = [helm_of(machine, free) for free in FREES]
    return helms + [grown(helms[1], SLOW), grown(helms[2], SPRING)] + [
        helm for helm in HELMS if is_steady_loop(machine, helm)]


def reduced(helm):
    """A helm without its common divisor."""
    part = common_divisor(*helm)
    return parted(helm[0], part)[0], parted(helm[1], part)[0]


def less(value, other):
    """The first row less the second one, by the definition."""
    return plain_sum(value, plain_product(row(-1), other))


def only_helm(machine, answer):
    """The one helm without common divisor that may leave an error: a / b = (1 - S) m / (S n); None if none may."""
    top, under = answer
    if top == ():
        return None
    a, b = plain_product(less(under, top), machine[1]), plain_product(top, machine[0])
    a, b = reduced((a, b))
    if b[0] == NIL:
        return None
    led = row(1 / plain(b)[0])
    return plain_product(a, led), plain_product(b, led)


def leaves(machine, helm, answer):
    """Whether a helm steadies a machine and leaves the error, by m b U = c T."""
    if not is_steady_loop(machine, helm):
        return False
    ours = plain_product(plain_product(machine[1], helm[1]), answer[1])
    return ours == plain_product(closing_row(machine, helm), answer[0])


class Errors(unittest.TestCase):

    def test_by_the_definition(self):
        for machine in GOOD:
            for helm in helms_for(machine):
                with self.subTest(machine=machine, helm=helm):
                    told = error_answer(machine, helm)
                    self.assertEqual(error_answer(helm=helm, machine=machine), told)
                    self.assertTrue(is_answer(told))
                    self.assertTrue(leaves(machine, helm, told))

    def test_beat_by_beat(self):
        many = 8
        goal, push = [Fraction(1)] + [Fraction(0)] * (many - 1), [Fraction(0)] * many
        for machine in GOOD:
            for helm in helms_for(machine)[::2]:
                y = beats(machine, helm, goal, push, (), ())[0]
                left = tuple(pair(g - shows) for g, shows in zip(goal, y))
                self.assertEqual(first_numbers(error_answer(machine, helm), many), left)

    def test_back_to_the_helm(self):
        for machine in GOOD:
            for helm in helms_for(machine):
                with self.subTest(machine=machine, helm=helm):
                    told = error_answer(machine, helm)
                    self.assertIs(is_error(machine, told), True)
                    self.assertIs(is_error(answer=told, machine=machine), True)
                    self.assertEqual(helm_with_error(machine, told), reduced(helm))
                    self.assertEqual(helm_with_error(answer=told, machine=machine), reduced(helm))

    def test_bent_answers(self):
        found = []
        for machine in CORES[:9] + HIDING[:3]:
            for helm in helms_for(machine)[:4]:
                top, under = error_answer(machine, helm)
                n, m = core_of(machine)
                both = plain_product(n, m)
                bends = [row(0, 1), row(0, 0, Fraction(1, 10 ** 30)), m, plain_product(row(0, 1), m), n, both,
                         plain_product(both, row(5, -1)), row(1)]
                for bend in bends:
                    bent = plain_sum(top, plain_product(bend, under)), under
                    wanted = only_helm(machine, bent)
                    if wanted is not None and not leaves(machine, wanted, bent):
                        wanted = None
                    with self.subTest(machine=machine, answer=bent):
                        self.assertIs(is_error(machine, bent), wanted is not None)
                        self.assertEqual(helm_with_error(machine, bent), wanted)
                    found.append(wanted is not None)
        self.assertGreater(found.count(True), 50)
        self.assertGreater(found.count(False), 100)

    def test_other_answers(self):
        under = [row(1), SLOW, SPRING, WILD, row(1, -1), plain_product(SLOW, SLOW)]
        answers = [(plain_sum(value, row(1)), part) for value in some_rows(5, 8) for part in under]
        answers = [answer for answer in answers if is_answer(answer)]
        for machine in CORES + HIDING[::4] + LOST[::3]:
            for answer in answers + [SILENT, (row(1), row(1))]:
                wanted = only_helm(machine, answer)
                if wanted is not None and not leaves(machine, wanted, answer):
                    wanted = None
                with self.subTest(machine=machine, answer=answer):
                    self.assertIs(is_error(machine, answer), wanted is not None)
                    self.assertEqual(helm_with_error(machine, answer), wanted)

    def test_by_hand(self):
        calm = (row(0, 1), SLOW)
        # Nothing is done: all of a goal is left, which a machine that is steady by itself lets.
        self.assertEqual(helm_with_error(calm, (row(1), row(1))), ((), row(1)))
        self.assertIs(is_error(CART, (row(1), row(1))), False)
        # Nothing is left of a goal: no helm is as quick as that.
        for machine in (calm, CART, STUCK):
            self.assertIs(is_error(machine, SILENT), False)
            self.assertIsNone(helm_with_error(machine, SILENT))
        # An error that grows, with zeros where they have to be.
        self.assertIs(is_error(calm, (row(1), WILD)), False)
        self.assertIs(is_error(calm, (row(1), SLOW)), True)
        # 0 at 1 / 2 once, where it has to be so twice.
        self.assertIs(is_error(TWICE, (WILD, row(1))), False)
        self.assertIs(is_error(TWICE, (plain_product(WILD, WILD), row(1))), True)
        # 1 at 0 once, where it has to be so twice.
        self.assertIs(is_error((row(0, 0, 1), SLOW), (row(1, 1), row(1))), False)
        self.assertIs(is_error((row(0, 0, 1), SLOW), (row(1, 0, 1), row(1))), True)
        self.assertIs(is_error(STUCK, (WILD, row(1))), False)
        self.assertEqual(helm_with_error(grown(CART, SLOW), (WILD, row(1))), HAND)

    def test_vast(self):
        deep = 10 ** 40
        machine = (row(0, 1), row(1, -deep))
        answer = (row(1, -deep), row(1, Fraction(1, deep)))
        self.assertEqual(helm_with_error(machine, answer), (row(deep + Fraction(1, deep)), row(1)))
        self.assertIs(is_error(machine, (row(1, -deep - 1), row(1))), False)


PLACES = [NIL, ONE, LESS, HALF, (-1, 2), (1, 4), (3, 4), (1, 3), (-2, 5), (-1, 10 ** 30), (10 ** 30 - 1, 10 ** 30)]


class Sums(unittest.TestCase):

    def sum_at(self, machine, helm, x):
        """The sum of S_k x^k of the error answer."""
        top, under = error_answer(machine, helm)
        return plain_worth(top, Fraction(*x)) / plain_worth(under, Fraction(*x))

    def test_fixed_or_free(self):
        found = []
        for machine in GOOD:
            n, m = core_of(machine)
            for x in PLACES:
                told = fixed_sum(machine, x)
                self.assertEqual(fixed_sum(x=x, machine=machine), told)
                found.append(told)
                sums = [self.sum_at(machine, helm, x) for helm in helms_for(machine)]
                with self.subTest(machine=machine, x=x):
                    if plain_worth(n, Fraction(*x)) == 0:
                        self.assertEqual(told, ONE)
                        self.assertEqual(set(sums), {1})
                    elif plain_worth(m, Fraction(*x)) == 0:
                        self.assertEqual(told, NIL)
                        self.assertEqual(set(sums), {0})
                    else:
                        self.assertIsNone(told)
                        self.assertGreater(len(set(sums)), 1)
        self.assertGreater(min(found.count(ONE), found.count(NIL), found.count(None)), 10)

    def test_at_the_ends(self):
        self.assertEqual(fixed_sum(BACK, ONE), NIL)
        self.assertEqual(fixed_sum((row(0, 1, -1), WILD), ONE), ONE)
        self.assertEqual(fixed_sum((row(0, 1, 1), WILD), LESS), ONE)
        self.assertEqual(fixed_sum((row(0, 1), row(1, 1)), LESS), NIL)
        self.assertEqual(fixed_sum(CART, NIL), ONE)
        self.assertIsNone(fixed_sum(CART, LESS))
        # By n' and m': what is hidden does not count.
        self.assertIsNone(fixed_sum(grown(CART, row(1, Fraction(-1, 2), Fraction(1, 3))), ONE))

    def test_with_each_sum(self):
        values = [NIL, ONE, LESS, (7, 3), (-10 ** 40, 3), (1, 10 ** 40)]
        for machine in GOOD:
            for x in PLACES:
                fixed = fixed_sum(machine, x)
                for value in values:
                    helm = helm_with_sum(machine, x, value)
                    self.assertEqual(helm_with_sum(value=value, x=x, machine=machine), helm)
                    with self.subTest(machine=machine, x=x, value=value):
                        if fixed not in (None, value):
                            self.assertIsNone(helm)
                            continue
                        self.assertTrue(is_helm(helm))
                        self.assertTrue(is_steady_loop(machine, helm))
                        self.assertEqual(pair(self.sum_at(machine, helm, x)), value)


def step_beats(machine, helm, many):
    """What is shown for the goal 1, 1, .., beat by beat."""
    return beats(machine, helm, [Fraction(1)] * many, [Fraction(0)] * many, (), ())[0]


def ended(machine, helm):
    """After how many beats nothing changes any more for the goal 1, 1, .., if the closing row is (1)."""
    return 2 * (len(machine[0]) + len(machine[1]) + len(helm[0]) + len(helm[1]))


def quick_helms(machine):
    """Helms with which all is over after some beats: those of free answers that are rows."""
    return [helm_of(machine, (value, row(1))) for value in some_rows(9, 12, 3, 4)] + [base_helm(machine)]


def with_zero(machine, at, side):
    """The machine with another zero of n (side 0) or of m (side 1)."""
    more = [row(1), row(1)]
    more[side] = row(1, -1 / at)
    return plain_product(machine[0], more[0]), plain_product(machine[1], more[1])


AT = [Fraction(1, 2), Fraction(1, 5), Fraction(9, 10)]
PLAIN = [(row(0, 1), row(1)), (row(0, 1), row(1, -3)), (row(0, 0, 2), row(1, 1)), (row(0, 1), row(1, -1))]


class Dips(unittest.TestCase):

    def test_beat_by_beat(self):
        many_dips = 0
        for at in AT:
            for machine in [with_zero(plain_machine, at, 0) for plain_machine in PLAIN]:
                for helm in quick_helms(machine):
                    self.assertEqual(closing_row(machine, helm), row(1))
                    y = step_beats(machine, helm, ended(machine, helm))
                    self.assertLess(min(y[1:]), 1)
                    for beat in range(2, len(y) - 1):
                        slack = max(Fraction(0), 1 - min(y[beat:]))
                        if slack < 1:
                            dip = least_dip(machine, pair(at), beat, pair(slack))
                            self.assertLessEqual(min(y[:beat]), -Fraction(*dip))
                            many_dips += 1
        self.assertGreater(many_dips, 100)

    def test_the_number(self):
        for at in AT:
            machine = with_zero(PLAIN[1], at, 0)
            for beat in (2, 3, 17, 60):
                for slack in (Fraction(0), Fraction(1, 3), Fraction(10 ** 40 - 1, 10 ** 40)):
                    power = at ** (beat - 1)
                    wanted = pair((1 - slack) * power / (1 - power))
                    self.assertEqual(least_dip(machine, pair(at), beat, pair(slack)), wanted)
                    told = least_dip(slack=pair(slack), beat=beat, x=pair(at), machine=machine)
                    self.assertEqual(told, wanted)

    def test_by_hand(self):
        # Back with its base helm shows 0, - 1, 1, 1, ..: just the dip.
        self.assertEqual(step_beats(BACK, base_helm(BACK), 5), [0, -1, 1, 1, 1])
        self.assertEqual(least_dip(BACK, HALF, 2, NIL), ONE)
        self.assertEqual(least_dip(BACK, HALF, 3, HALF), (1, 6))
        self.assertEqual(least_dip(grown(BACK, SLOW), HALF, 2, NIL), ONE)
        self.assertEqual(least_dip(SHY, (1, 4), 2, NIL), (1, 3))


class Peaks(unittest.TestCase):

    def test_beat_by_beat(self):
        for at in AT:
            for machine in [with_zero(plain_machine, at, 1) for plain_machine in PLAIN]:
                self.assertEqual(least_peak(machine, pair(at)), pair(1 / at))
                self.assertEqual(least_peak(x=pair(at), machine=machine), pair(1 / at))
                for helm in quick_helms(machine):
                    y = step_beats(machine, helm, ended(machine, helm))
                    self.assertGreaterEqual(max(y), 1 / at)

    def test_by_hand(self):
        self.assertEqual(step_beats(CART, HAND, 4), [0, 2, 2, 2])
        self.assertEqual(least_peak(CART, HALF), TWO)
        self.assertEqual(least_peak(grown(CART, SPRING), HALF), TWO)
        tiny = (1, 10 ** 40)
        self.assertEqual(least_peak((row(0, 1), row(1, -10 ** 40)), tiny), (10 ** 40, 1))

    def test_answers_for_the_goal(self):
        # The same by the answers of loops, whose numbers go on without end.
        for free in FREES[:4]:
            helm = helm_of(CART, free)
            y = shown(CART, helm, STEP, SILENT, (), ())[0]
            self.assertGreaterEqual(max(Fraction(*number) for number in first_numbers(y, 30)), 2)


if __name__ == "__main__":
    unittest.main()

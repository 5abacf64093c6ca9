"""Steady helms, and one helm for two machines: by zeros known by hand, and by helms that do."""

import random
import unittest
from fractions import Fraction
from math import isqrt

from allhelms.helms import base_helm, helm_of, is_steady_helm
from allhelms.loops import closing_row, is_steady_loop
from allhelms.machines import can_be_steadied, core_of, is_machine
from allhelms.parity import (difference_of, has_steady_helm, is_parting, one_for_both, parting_of_both,
                             parting_stretch)
from allhelms.rows import common_divisor
from tests.things import BACK, CALM, CART, CORES, DEAF, HEAVY, HIDING, LATE, ODD, SHY, TWICE, delay, grown
from tests.tools import (HALF, LESS, NIL, ONE, SLOW, SPRING, TWO, WILD, pair, plain_product, plain_sum, plain_worth,
                         row, some_rows)

F = Fraction
FINE = 10 ** 60


def root(number):
    """Fractions just below and just above the square root of a fraction."""
    low = isqrt(number.numerator * FINE * FINE // number.denominator)
    return F(low, FINE), F(low + 1, FINE)


def linear(at):
    """A row with just this zero, with the stretch in which it is."""
    at = F(at)
    return row(1, -1 / at), [(at, at)]


def square(number):
    """1 - d d / number: its zeros are the square roots of a fraction."""
    low, high = root(F(number))
    return row(1, 0, -1 / F(number)), [(low, high), (-high, -low)]


def golden():
    """1 - 3 d + d d: its zeros are (3 +- sqrt 5) / 2, the one near 0.38, the other one near 2.6."""
    low, high = root(F(5))
    return row(1, -3, 1), [((3 - high) / 2, (3 - low) / 2), ((3 + low) / 2, (3 + high) / 2)]


def unreal(value):
    """A row without real zeros."""
    return value, []


# Factors of n', each with the stretches, very short, that hold its real zeros.
FACTORS = [linear(x) for x in (1, -1, F(1, 2), F(-1, 2), F(3, 4), F(9, 10), F(-4, 5), 2, F(-101, 100), F(1, 10 ** 40))]
FACTORS += [square(x) for x in (F(1, 2), F(1, 3), 2, F(9, 10))] + [golden(), unreal(row(1, 0, 4)), unreal(row(1, 1, 1)),
                                                                    unreal(row(1, 0, 0, 0, 16))]
UNDER = [row(1), WILD, row(1, -1), row(1, F(-10, 7)), row(1, 3), row(1, F(6, 5)), row(1, 0, -3), row(1, -5, 5),
         row(1, 0, 1), row(1, 0, F(-16, 9)), row(1, -4, F(15, 4)), SLOW]


def machines_with_zeros():
    """Machines with the short stretches that hold the real zeros of n' from - 1 to 1, but 0."""
    found = []
    source = random.Random(4)
    for under in UNDER:
        for _ in range(14):
            chosen = source.sample(FACTORS, source.randint(0, 3))
            if source.random() < 0.3:
                chosen = chosen + chosen[:1]
            top = plain_product(delay(source.randint(1, 2)), row(source.choice((-3, 1))))
            for factor, _ in chosen:
                top = plain_product(top, factor)
            if common_divisor(top, under) == row(1):
                places = [place for _, stretches in chosen for place in stretches]
                found.append(((top, under), [(low, high) for low, high in places if low >= -1 and high <= 1]))
    return found


MADE = machines_with_zeros()


def below(machine, places):
    """The stretches in which m' is below 0."""
    return [place for place in places if plain_worth(machine[1], place[0]) < 0]


class SteadyHelms(unittest.TestCase):

    def test_by_known_zeros(self):
        found = []
        for machine, places in MADE:
            wanted = not below(machine, places)
            found.append(wanted)
            with self.subTest(machine=machine):
                self.assertIs(has_steady_helm(machine), wanted)
                self.assertIs(has_steady_helm(machine=machine), wanted)
                stretch = parting_stretch(machine)
                self.assertEqual(parting_stretch(machine=machine), stretch)
                if wanted:
                    self.assertIsNone(stretch)
                    continue
                low, high = F(*stretch[0]), F(*stretch[1])
                self.assertEqual((pair(low), pair(high)), stretch)
                self.assertTrue(-1 <= low <= high <= 1)
                self.assertTrue(any(low <= first and last <= high for first, last in below(machine, places)))
                # Below 0 at the ends and at places between.
                for k in range(21):
                    self.assertLess(plain_worth(machine[1], low + (high - low) * k / 20), 0)
                self.assertIs(is_parting(machine, stretch), True)
        self.assertGreater(min(found.count(True), found.count(False)), 30)

    def test_hidden_parts_do_not_count(self):
        for machine, places in MADE[::3]:
            for part in (SLOW, SPRING, row(1, F(1, 3))):
                wide = grown(machine, part)
                self.assertIs(has_steady_helm(wide), has_steady_helm(machine))
                stretch = parting_stretch(machine)
                if stretch is not None:
                    self.assertIs(is_parting(wide, stretch), True)

    def test_where_there_is_a_steady_helm(self):
        # FOR ALL helms: where one with a steady b is seen, there is one.
        many = 0
        for machine in CORES + HIDING[::2] + [machine for machine, _ in MADE]:
            for free in [((), row(1))] + [(value, under) for value in some_rows(6, 10, 2, 4) for under in (row(1), SLOW)
                                          if len(common_divisor(value, under)) == 1 and value != ()]:
                helm = helm_of(machine, free)
                if is_steady_helm(helm):
                    many += 1
                    self.assertIs(has_steady_helm(machine), True)
                    break
        self.assertGreater(many, 60)

    def test_by_hand(self):
        self.assertIs(has_steady_helm(CART), True)
        self.assertIs(has_steady_helm(SHY), True)
        self.assertIs(has_steady_helm(ODD), False)
        # n' 0 at 1, m' 1 - 2 there.
        self.assertIs(has_steady_helm(DEAF), False)
        self.assertEqual(is_parting(DEAF, (ONE, ONE)), True)
        self.assertIs(has_steady_helm((row(0, 1, 1), row(1, 2))), False)
        self.assertIs(has_steady_helm((row(0, 1, -2, 1), WILD)), False)
        # Just inside and just outside of the round.
        tiny = F(1, 10 ** 40)
        self.assertIs(has_steady_helm((row(0, 1, -1 + tiny), WILD)), True)
        self.assertIs(has_steady_helm((row(0, 1, -1 - tiny), WILD)), False)
        # Zeros of both rows very near to one another.
        for side, wanted in ((1 - tiny, False), (1 + tiny, True)):
            machine = (row(0, 1, -2 * side), WILD)
            self.assertIs(has_steady_helm(machine), wanted)
            self.assertIs(is_parting(machine, parting_stretch(machine)), not wanted)
        for machine in (LATE, HEAVY, CALM, TWICE):
            self.assertIs(has_steady_helm(machine), parting_stretch(machine) is None)

    def test_vast(self):
        deep = 10 ** 40
        machine = (row(0, deep, 0, -3 * deep), row(1, -deep))
        self.assertIs(has_steady_helm(machine), False)
        low, high = parting_stretch(machine)
        self.assertLess(F(*low) ** 2, F(1, 3))
        self.assertGreater(F(*high) ** 2, F(1, 3))
        self.assertIs(has_steady_helm((row(0, deep, 0, -3 * deep), row(1, 0, deep))), True)


class Partings(unittest.TestCase):

    def check(self, machine, low, high, wanted):
        value = (pair(low), pair(high))
        with self.subTest(machine=machine, value=value):
            self.assertIs(is_parting(machine, value), wanted)
            self.assertIs(is_parting(value=value, machine=machine), wanted)

    def test_ends_at_a_zero_told_by_fractions(self):
        # odd: n' is 0 at 3 / 4, m' from 1 / 2 on not above 0.
        tiny = F(1, 10 ** 40)
        at, half = F(3, 4), F(1, 2)
        for low, high, wanted in ((at, at, True), (at, F(1), True), (half + tiny, at, True), (half + tiny, F(1), True),
                                  (half, at, False), (half - tiny, at, False), (at + tiny, F(1), False),
                                  (half + tiny, at - tiny, False), (at - tiny, at + tiny, True), (at, half, False),
                                  (F(1), at, False), (at, 1 + tiny, False), (at, F(2), False), (F(-1), at, False),
                                  (F(-2), F(2), False), (half, half, False), (F(0), F(0), False)):
            self.check(ODD, low, high, wanted)

    def test_zeros_told_by_no_fractions(self):
        # n' is 0 at + - sqrt (1 / 2), m' below 0 from 2 / 5 on.
        machine = (row(0, 1, 0, -2), row(1, F(-5, 2)))
        low, high = root(F(1, 2))
        edge = F(2, 5)
        tiny = F(1, FINE)
        for first, last, wanted in ((low, high, True), (low, low, False), (high, high, False), (high, F(1), False),
                                    (low - tiny, low, False), (edge, F(1), False), (edge + tiny, F(1), True),
                                    (edge + tiny, low, False), (edge + tiny, high, True), (-high, -low, False),
                                    (F(-1), F(1), False)):
            self.check(machine, first, last, wanted)
        # The other one at the negative zero.
        self.check((row(0, 1, 0, -2), row(1, F(5, 2))), -high, -low, True)
        self.check((row(0, 1, 0, -2), row(1, F(5, 2))), F(-1), -edge - tiny, True)
        self.check((row(0, 1, 0, -2), row(1, F(5, 2))), F(-1), -edge, False)

    def test_at_1_and_at_0(self):
        self.check(DEAF, F(1), F(1), True)
        self.check(DEAF, F(1, 2), F(1), False)
        self.check(DEAF, F(3, 4), F(1), True)
        self.check((row(0, 1, 1), row(1, 2)), F(-1), F(-1), True)
        self.check((row(0, 1, 1), row(1, 2)), F(-1), F(-3, 5), True)
        # 0 is a zero of each n', but m' is 1 there.
        for machine in (CART, ODD, DEAF, LATE, CALM):
            self.check(machine, F(0), F(0), False)

    def test_zeros_that_come_twice(self):
        twice = (plain_product(row(0, 1), plain_product(row(1, F(-4, 3)), row(1, F(-4, 3)))), WILD)
        self.check(twice, F(3, 4), F(3, 4), True)
        self.check(twice, F(5, 8), F(1), True)
        self.check(twice, F(4, 5), F(1), False)
        self.assertIs(has_steady_helm(twice), False)
        # m' touches 0, above and below 0 on both sides.
        touched = (row(0, 1, F(-4, 3)), plain_product(row(1, -1), plain_product(row(1, F(-5, 4)), row(1, F(-5, 4)))))
        self.check(touched, F(3, 4), F(3, 4), False)
        self.assertIs(has_steady_helm(touched), True)
        sunk = (row(0, 1, F(-4, 3)), plain_product(WILD, plain_product(row(1, F(-5, 4)), row(1, F(-5, 4)))))
        self.check(sunk, F(3, 4), F(3, 4), True)
        self.check(sunk, F(3, 4), F(79, 100), True)
        self.check(sunk, F(3, 4), F(4, 5), False)
        self.check(sunk, F(3, 4), F(9, 10), False)

    def test_several_zeros_in_a_stretch(self):
        # m' is below 0 from 1 / 2 on; n' is 0 at two places beyond, in the same half of a stretch or not.
        for first, second in ((F(5, 8), F(7, 8)), (F(51, 100), F(52, 100)), (F(98, 100), F(99, 100)),
                              (F(3, 4), F(4, 5)),
                              (F(7, 10), F(7, 10) + F(1, 10 ** 30)), (F(8, 11), F(9, 11))):
            n = plain_product(row(0, 1), plain_product(linear(first)[0], linear(second)[0]))
            machine = (n, WILD)
            half, between = F(1, 2) + F(1, 10 ** 6), (first + second) / 2
            for low, high, wanted in ((half, F(1), True), (half, second, True), (first, F(1), True),
                                      (first, second, True),
                                      (half, between, True), (between, F(1), True), (between, between, False),
                                      (half, first - F(1, 10 ** 9), False), (second + F(1, 10 ** 9), F(1), False),
                                      (between, second - (second - between) / 3, False), (F(1, 2), F(1), False)):
                self.check(machine, low, high, wanted)
            self.assertIs(has_steady_helm(machine), False)

    def test_where_m_comes_back(self):
        # m' is below 0 at both ends of a stretch, but not throughout.
        for first, second in ((F(5, 8), F(7, 8)), (F(51, 100), F(52, 100)), (F(97, 100), F(98, 100)),
                              (F(7, 10), F(7, 10) + F(1, 10 ** 30)), (F(8, 11), F(9, 11))):
            m = plain_product(WILD, plain_product(linear(first)[0], linear(second)[0]))
            at = F(505, 1000)
            machine = (plain_product(row(0, 1), linear(at)[0]), m)
            for low, high, wanted in ((at, F(1), False), (at, second, False), (at, first, False), (at, at, True),
                                      (at, first - F(1, 10 ** 9), True), (F(501, 1000), F(1), False),
                                      (at, (second + 1) / 2, False), (F(501, 1000), (at + first) / 2, True)):
                self.check(machine, low, high, wanted)
            self.assertIs(is_parting(machine, parting_stretch(machine)), True)

    def test_zeros_that_are_nearly_real(self):
        # n' comes near to 0 where m' is below 0, and is not 0 there.
        for at in (F(3, 4), F(7, 10), F(9, 11), F(53, 100)):
            for near in (F(1, 100), F(1, 10 ** 12), F(1, 10 ** 80)):
                nearly = plain_product(row(0, 1), row(at * at + near, -2 * at, 1))
                machine = (nearly, WILD)
                self.assertIs(has_steady_helm(machine), True)
                self.check(machine, at, at, False)
                self.check(machine, F(501, 1000), F(1), False)
                # With real zeros there it is.
                machine = (plain_product(row(0, 1), row(at * at - near ** 2, -2 * at, 1)), WILD)
                self.assertIs(has_steady_helm(machine), False)
                self.check(machine, F(501, 1000), F(1), True)
                self.check(machine, at, at, False)
                # And m' that comes near to 0 from below does not.
                low = row(at * at + near, -2 * at, 1)
                machine = (plain_product(row(0, 1), linear(F(505, 1000))[0]),
                           plain_product(WILD, plain_product(low, row(1 / (at * at + near)))))
                self.check(machine, F(501, 1000), F(1), True)

    def test_other_values(self):
        good = ((3, 4), ONE)
        self.assertIs(is_parting(ODD, good), True)
        for value in (list(good), [[3, 4], [1, 1]], ((3, 4), [1, 1]), ([3, 4], ONE), good + (ONE,), good[:1], (),
                      None, 7,
                      ((6, 8), ONE), ((3, 4), (2, 2)), ((3, 4), 1), ((3, 4), True), ((3, 4), (True, 1)), "", "ab", ODD,
                      ((3, 4), None), (None, ONE), ((3, 4), TWO), ((-3, 2), ONE), (ONE, (3, 4))):
            self.assertIs(is_parting(ODD, value), False)
        for machine in (CART, SHY, BACK, LATE, CALM):
            for value in (good, (LESS, ONE), (NIL, NIL), (HALF, HALF), (HALF, ONE), (ONE, ONE), (LESS, LESS)):
                self.assertIs(is_parting(machine, value), False)


def by_the_text(machine, other):
    """The difference, by the definition."""
    (n, m), (k, l) = core_of(machine), core_of(other)
    p, w = base_helm(machine)
    return (plain_sum(plain_product(n, l), plain_product(row(-1), plain_product(k, m))),
            plain_sum(plain_product(w, l), plain_product(p, k)))


PAIRS = [(machine, other) for machine in CORES[:9] + HIDING[::6] for other in CORES[:9] + HIDING[1::6]]
FREES = [((), row(1)), (row(1), row(1)), (row(-2, 1), row(1)), (row(1), SLOW), (row(0, 3), SPRING)]


class Both(unittest.TestCase):

    def test_differences(self):
        for machine, other in PAIRS:
            with self.subTest(machine=machine, other=other):
                told = difference_of(machine, other)
                self.assertEqual(difference_of(other=other, machine=machine), told)
                self.assertEqual(told, by_the_text(machine, other))
                self.assertEqual(common_divisor(*told), row(1))
                same = plain_product(core_of(machine)[0], core_of(other)[1]) == plain_product(
                    core_of(other)[0], core_of(machine)[1])
                self.assertIs(told[0] == (), same)
                self.assertIs(is_machine(told), not same)

    def test_one_for_both(self):
        found = []
        for machine, other in PAIRS:
            with self.subTest(machine=machine, other=other):
                told = one_for_both(machine, other)
                found.append(told)
                self.assertIs(one_for_both(other=other, machine=machine), told)
                # It does not matter which one is the first.
                self.assertIs(one_for_both(other, machine), told)
                difference = difference_of(machine, other)
                stretch = parting_of_both(machine, other)
                self.assertEqual(parting_of_both(other=other, machine=machine), stretch)
                if told:
                    self.assertIsNone(stretch)
                    self.assertIs(difference[0] == () or has_steady_helm(difference), True)
                else:
                    self.assertIs(is_parting(difference, stretch), True)
                    low, high = F(*stretch[0]), F(*stretch[1])
                    for k in range(9):
                        self.assertLess(plain_worth(difference[1], low + (high - low) * k / 8), 0)
        self.assertGreater(min(found.count(True), found.count(False)), 20)

    def test_where_one_helm_does(self):
        # FOR ALL helms: what some helm steadies has one for both.
        many = 0
        for machine, other in PAIRS:
            for free in FREES:
                helm = helm_of(machine, free)
                if is_steady_loop(other, helm):
                    many += 1
                    self.assertIs(one_for_both(machine, other), True)
        self.assertGreater(many, 20)

    def test_made_for_a_helm(self):
        # For each n and a there is an m with n a + m b = c if b is (1).
        for a in some_rows(12, 6, 2, 3):
            for n in ((row(0, 1)), row(0, 1, -2), row(0, 0, 3, 1)):
                for k in (row(0, -2), row(0, 1, 1, 5)):
                    machine = (n, plain_sum(SLOW, plain_product(row(-1), plain_product(n, a))))
                    other = (k, plain_sum(SPRING, plain_product(row(-1), plain_product(k, a))))
                    self.assertEqual(closing_row(machine, (a, row(1))), SLOW)
                    if can_be_steadied(machine) and can_be_steadied(other):
                        self.assertIs(one_for_both(machine, other), True)
                        self.assertIsNone(parting_of_both(machine, other))

    def test_by_hand(self):
        turned, twin = (row(0, -1), WILD), (row(0, 1), row(1, 2))
        self.assertEqual(difference_of(CART, turned), (row(0, 2, -4), row(1, -4)))
        self.assertEqual(difference_of(CART, CART), ((), row(1)))
        self.assertEqual(difference_of(CART, grown(CART, SLOW)), ((), row(1)))
        self.assertIs(one_for_both(CART, turned), False)
        self.assertIs(one_for_both(CART, twin), True)
        self.assertIs(one_for_both(CART, grown(CART, SPRING)), True)
        self.assertIsNone(parting_of_both(grown(CART, SPRING), CART))
        # The helm that does nothing does for two machines that are steady by themselves.
        self.assertIs(one_for_both(CALM, (row(0, 5), SPRING)), True)


if __name__ == "__main__":
    unittest.main()

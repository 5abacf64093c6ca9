"""All helms: the base helm, the helm of a free answer and back, least helms, steady helms."""

import unittest
from fractions import Fraction

from allhelms.answers import answer_of, answer_product, answer_sum, dies_out, is_answer
from allhelms.helms import base_helm, free_answer, helm_of, is_steady_helm, least_helm
from allhelms.loops import closing_row, four_answers, is_steady_loop
from allhelms.machines import core_of, hidden_part, is_helm, same_helm
from allhelms.rows import common_divisor, divides
from allhelms.steady import is_steady
from tests.things import (BACK, CALM, CART, CORES, DEAF, HAND, HELMS, HIDING, IDLE, KEEP, LATE, LOST, MACHINES, SHY,
                          STEADY_PARTS, STUCK, TURN, UNSTEADY_PARTS, grown)
from tests.tools import SLOW, SPRING, WILD, degree, plain, plain_product, plain_sum, row

SILENT, WHOLE = ((), row(1)), (row(1), row(1))
CLOSE = Fraction(10 ** 25 - 1, 10 ** 25)
FREES = [SILENT, WHOLE, (row(-3), row(1)), (row(0, 2), row(1)), (row(1), SLOW), (row(2, -1, 5), SPRING),
         (row(1, 7), row(1, -CLOSE)), (row(0, 0, Fraction(1, 3)), row(1, 0, CLOSE)), (row(1, -2), row(1)),
         (row(Fraction(10 ** 30, 7)), row(1, Fraction(1, 2), CLOSE))]
STEADIED = CORES + HIDING
ROWS = [row(1), SLOW, SPRING, WILD, KEEP, TURN, row(1, 5, 0, -2), row(1, 0, 0, 0, 0, 3), row(1, Fraction(10 ** 40, 3))]


def turned(value):
    """The row with each number's sign turned."""
    return row(*[-number for number in plain(value)])


def less(value, other):
    """The first row less the second one."""
    return plain_sum(value, turned(other))


def closed(machine, helm):
    """m b + n a."""
    return plain_sum(plain_product(machine[1], helm[1]), plain_product(machine[0], helm[0]))


def is_below(value, other):
    """Whether a row is () or of a degree below that of the other one."""
    return value == () or degree(value) < degree(other)


class Base(unittest.TestCase):

    def test_base_helms(self):
        for machine in STEADIED:
            with self.subTest(machine=machine):
                told = base_helm(machine)
                self.assertIs(is_helm(told), True)
                self.assertEqual(closed(core_of(machine), told), row(1))
                self.assertTrue(is_below(told[0], core_of(machine)[1]))
                self.assertEqual(base_helm(machine=machine), told)
                self.assertEqual(base_helm(core_of(machine)), told)

    def test_by_hand(self):
        self.assertEqual(base_helm(CART), HAND)
        self.assertEqual(base_helm(grown(CART, SPRING)), HAND)
        self.assertEqual(base_helm(BACK), (row(-1), row(1, 2)))
        self.assertEqual(base_helm(CALM), IDLE)
        self.assertEqual(base_helm((row(0, 0, 1), WILD)), (row(4), row(1, 2)))


class FreeAnswers(unittest.TestCase):

    def test_helms_of_free_answers(self):
        for machine in STEADIED:
            n, m = core_of(machine)
            p, w = base_helm(machine)
            for free in FREES:
                with self.subTest(machine=machine, free=free):
                    told = helm_of(machine, free)
                    self.assertIs(is_helm(told), True)
                    self.assertEqual(degree(common_divisor(*told)), 0)
                    wanted = (plain_sum(plain_product(p, free[1]), plain_product(m, free[0])),
                              less(plain_product(w, free[1]), plain_product(n, free[0])))
                    self.assertIs(same_helm(told, wanted), True)
                    self.assertIs(is_steady_loop(machine, told), True)
                    self.assertEqual(free_answer(machine, told), free)
                    self.assertEqual(helm_of(free=free, machine=machine), told)

    def test_free_answers_of_helms(self):
        found = 0
        for machine in STEADIED:
            helms = HELMS + [least_helm(machine, plain_product(hidden_part(machine), part)) for part in STEADY_PARTS]
            for helm in helms:
                if not is_steady_loop(machine, helm):
                    continue
                found += 1
                with self.subTest(machine=machine, helm=helm):
                    told = free_answer(machine, helm)
                    self.assertIs(is_answer(told), True)
                    self.assertIs(dies_out(told), True)
                    p, w = base_helm(machine)
                    top = less(plain_product(helm[0], w), plain_product(helm[1], p))
                    self.assertEqual(told, answer_of(top, closed(core_of(machine), helm)))
                    self.assertIs(same_helm(helm_of(machine, told), helm), True)
                    self.assertEqual(free_answer(helm=helm, machine=machine), told)
        self.assertGreater(found, 100)

    def test_common_divisors_of_helms(self):
        for machine in (CART, BACK, LATE, HIDING[0], HIDING[9]):
            for free in FREES:
                helm = helm_of(machine, free)
                for part in STEADY_PARTS:
                    with self.subTest(machine=machine, free=free, part=part):
                        self.assertEqual(free_answer(machine, grown(helm, part)), free)

    def test_one_free_answer_for_each_helm(self):
        for machine in (CART, BACK, SHY, HIDING[3]):
            helms = [helm_of(machine, free) for free in FREES]
            for at, helm in enumerate(helms):
                for other in helms[at + 1:]:
                    self.assertIs(same_helm(helm, other), False)

    def test_answers_go_straight_with_the_free_one(self):
        for machine in (CART, BACK, LATE, CALM, HIDING[2], HIDING[7]):
            n, m = core_of(machine)
            p, w = base_helm(machine)
            for free in FREES:
                with self.subTest(machine=machine, free=free):
                    told = answer_sum((p, row(1)), answer_product((m, row(1)), free))
                    kept = answer_sum((w, row(1)), answer_product((turned(n), row(1)), free))
                    wanted = tuple(answer_product((value, row(1)), answer) for value, answer in
                                   ((n, told), (m, told), (n, kept), (turned(n), told)))
                    self.assertEqual(four_answers(machine, helm_of(machine, free)), wanted)

    def test_by_hand(self):
        sure = (row(3, -2), KEEP)
        self.assertEqual(helm_of(CART, WHOLE), sure)
        self.assertEqual(helm_of(CART, SILENT), HAND)
        self.assertEqual(helm_of(CART, (row(-2), row(1))), (row(0, 4), row(1, 2)))
        self.assertEqual(free_answer(CART, sure), WHOLE)
        self.assertEqual(free_answer(CART, HAND), SILENT)
        self.assertEqual(free_answer(CART, (row(Fraction(3, 2)), row(1))), (row(Fraction(-1, 2)), SLOW))
        self.assertEqual(free_answer(CALM, (row(Fraction(1, 4)), row(1))),
                         (row(Fraction(1, 4)), row(1, Fraction(1, 4), Fraction(1, 4))))
        # The helm that tells nothing.
        self.assertEqual(free_answer(CALM, IDLE), SILENT)
        self.assertEqual(helm_of((row(0, 1), SLOW), (row(Fraction(-1, 2)), SLOW)), IDLE)


class Least(unittest.TestCase):

    def test_least_helms(self):
        for machine in MACHINES:
            part, core = hidden_part(machine), core_of(machine)
            for value in ROWS:
                wished = plain_product(part, value)
                with self.subTest(machine=machine, wished=wished):
                    told = least_helm(machine, wished)
                    self.assertIs(is_helm(told), True)
                    self.assertEqual(closing_row(machine, told), wished)
                    self.assertTrue(is_below(told[0], core[1]))
                    self.assertEqual(least_helm(wished=wished, machine=machine), told)

    def test_where_there_is_none(self):
        found = 0
        for machine in HIDING + LOST:
            for wished in ROWS:
                if not divides(hidden_part(machine), wished):
                    found += 1
                    with self.subTest(machine=machine, wished=wished):
                        self.assertIsNone(least_helm(machine, wished))
                        self.assertIsNone(least_helm(wished=wished, machine=machine))
        self.assertGreater(found, 200)

    def test_unsteady_hidden_parts(self):
        for part in UNSTEADY_PARTS:
            with self.subTest(part=part):
                self.assertEqual(least_helm(grown(CART, part), part), HAND)
                self.assertEqual(least_helm(grown(BACK, part), part), (row(-1), row(1, 2)))
                self.assertIsNone(least_helm(grown(CART, part), row(1)))
                self.assertIsNone(least_helm(grown(CART, part), SPRING))

    def test_one_for_the_base_helm(self):
        for machine in STEADIED:
            self.assertEqual(least_helm(machine, hidden_part(machine)), base_helm(machine))

    def test_by_hand(self):
        self.assertEqual(least_helm(CART, SLOW), (row(Fraction(3, 2)), row(1)))
        self.assertEqual(least_helm(CART, WILD), IDLE)
        self.assertEqual(least_helm(CART, row(1, 0, 1)), (row(Fraction(5, 2)), row(1, Fraction(-1, 2))))
        self.assertEqual(least_helm(CALM, SPRING), ((), SPRING))
        self.assertEqual(least_helm(STUCK, row(1, -1, -2)), ((), row(1, 1)))
        self.assertIsNone(least_helm(STUCK, row(1)))


class SteadyHelms(unittest.TestCase):

    def test_steady_helms(self):
        for helm in HELMS + [grown(helm, part) for helm in HELMS for part in UNSTEADY_PARTS + STEADY_PARTS]:
            with self.subTest(helm=helm):
                self.assertIs(is_steady_helm(helm), is_steady(helm[1]))
                self.assertIs(is_steady_helm(helm=helm), is_steady(helm[1]))

    def test_by_hand(self):
        self.assertIs(is_steady_helm(HAND), True)
        self.assertIs(is_steady_helm((row(0, 4), row(1, 2))), False)
        self.assertIs(is_steady_helm((row(1), KEEP)), False)
        self.assertIs(is_steady_helm((WILD, SLOW)), True)
        # As it was passed: with what a and b have in common.
        self.assertIs(is_steady_helm(grown(HAND, WILD)), False)
        self.assertIs(is_steady_helm(((), WILD)), False)
        self.assertIs(is_steady_helm(((), row(1, -CLOSE))), True)
        self.assertIs(is_steady_helm(helm_of(DEAF, SILENT)), False)


if __name__ == "__main__":
    unittest.main()

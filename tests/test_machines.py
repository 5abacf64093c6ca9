"""Machines and helms: what they are, their sizes, the hidden part, the same but for hidden parts."""

import unittest
from fractions import Fraction

from allhelms.machines import (can_be_steadied, core_of, helm_size, hidden_part, is_helm, is_machine, same_helm,
                               size_of)
from tests.things import (BACK, CALM, CART, CORES, HAND, HELMS, HIDING, IDLE, LATE, LONG, LOST, MACHINES, NO_HELMS,
                          NO_MACHINES, STEADY_PARTS, STUCK, UNSTEADY_PARTS, grown, plain_size)
from tests.tools import Liar, SLOW, SPRING, WILD, is_plain_row, plain, plain_product, row


class Kinds(unittest.TestCase):

    def test_machines(self):
        for value in MACHINES:
            with self.subTest(value=value):
                self.assertIs(is_machine(value), True)
                self.assertIs(is_machine(value=value), True)
                # Each machine could be a helm.
                self.assertIs(is_helm(value), True)

    def test_helms(self):
        for value in HELMS:
            with self.subTest(value=value):
                self.assertIs(is_helm(value), True)
                self.assertIs(is_helm(value=value), True)
                self.assertIs(is_machine(value), value[0] != () and value[0][0][0] == 0)

    def test_what_is_none(self):
        for at, value in enumerate(NO_MACHINES):
            with self.subTest(at=at):
                self.assertIs(is_machine(value), False)
        for at, value in enumerate(NO_HELMS):
            with self.subTest(at=at):
                self.assertIs(is_helm(value), False)
        self.assertIs(is_machine((Liar(), Liar())), False)
        self.assertIs(is_helm((Liar(), Liar())), False)

    def test_helms_that_are_no_machines(self):
        for value in (HAND, IDLE, (row(1, 1), WILD), (WILD, WILD), (row(Fraction(1, 10 ** 30), 1), row(1))):
            self.assertIs(is_helm(value), True)
            self.assertIs(is_machine(value), False)


class Sizes(unittest.TestCase):

    def test_sizes(self):
        for machine in MACHINES:
            with self.subTest(machine=machine):
                self.assertEqual(size_of(machine), plain_size(machine))
        for helm in HELMS:
            with self.subTest(helm=helm):
                self.assertEqual(helm_size(helm), plain_size(helm))

    def test_by_hand(self):
        self.assertEqual([size_of(machine) for machine in (CART, BACK, LATE, CALM, LONG)], [1, 2, 3, 2, 4])
        self.assertEqual([helm_size(helm) for helm in (HAND, IDLE, ((), SLOW), ((), SPRING))], [0, 0, 1, 2])
        self.assertEqual([helm_size((row(1, 0, 0, 5), row(1))), helm_size((row(3), SPRING))], [3, 2])
        self.assertIs(type(size_of(CART)), int)


class HiddenParts(unittest.TestCase):

    def test_cores(self):
        for core in CORES:
            with self.subTest(core=core):
                self.assertEqual(hidden_part(core), row(1))
                self.assertEqual(core_of(core), core)
                self.assertIs(can_be_steadied(core), True)

    def test_parts(self):
        for core in CORES:
            for part in STEADY_PARTS + UNSTEADY_PARTS:
                machine = grown(core, part)
                with self.subTest(core=core, part=part):
                    self.assertEqual(hidden_part(machine), part)
                    self.assertEqual(core_of(machine), core)
                    self.assertIs(can_be_steadied(machine), part in STEADY_PARTS)

    def test_what_is_told(self):
        for machine in MACHINES:
            with self.subTest(machine=machine):
                part, core = hidden_part(machine), core_of(machine)
                self.assertTrue(is_plain_row(part))
                self.assertEqual(plain(part)[0], 1)
                self.assertIs(is_machine(core), True)
                self.assertEqual(grown(core, part), machine)
                self.assertIs(can_be_steadied(machine), machine not in LOST)

    def test_by_hand(self):
        self.assertEqual(hidden_part(STUCK), WILD)
        self.assertEqual(core_of(STUCK), (row(0, 1), row(1)))
        # A common number alone is nothing hidden.
        self.assertEqual(hidden_part((row(0, 6), row(1, 3))), row(1))
        self.assertEqual(core_of((row(0, 6, -3), row(1, Fraction(-1, 2)))), (row(0, 6), row(1)))
        self.assertEqual(hidden_part((row(0, 1, 0, -1), row(1, -2, 1))), row(1, -1))
        self.assertIs(can_be_steadied((row(0, 1, 0, -1), row(1, -2, 1))), False)
        self.assertIs(can_be_steadied((row(0, 0, 1, 0, 1), plain_product(SLOW, row(1, 0, 1)))), False)
        close = row(1, Fraction(10 ** 30 - 1, 10 ** 30))
        self.assertIs(can_be_steadied(grown(CART, close)), True)

    def test_by_name(self):
        for call in (size_of, hidden_part, core_of, can_be_steadied):
            self.assertEqual(call(machine=HIDING[0]), call(HIDING[0]))
        self.assertEqual(helm_size(helm=HAND), 0)


class Same(unittest.TestCase):

    def test_same_helms(self):
        for helm in HELMS:
            for other in HELMS:
                wanted = plain_product(helm[0], other[1]) == plain_product(other[0], helm[1])
                with self.subTest(helm=helm, other=other):
                    self.assertIs(same_helm(helm, other), wanted)
                    self.assertIs(same_helm(other=helm, helm=other), wanted)

    def test_common_parts_do_not_count(self):
        for helm in HELMS:
            for part in STEADY_PARTS + UNSTEADY_PARTS:
                with self.subTest(helm=helm, part=part):
                    self.assertIs(same_helm(helm, grown(helm, part)), True)
                    self.assertIs(same_helm(grown(helm, WILD), grown(helm, part)), True)

    def test_by_hand(self):
        self.assertIs(same_helm(IDLE, ((), SPRING)), True)
        self.assertIs(same_helm(IDLE, HAND), False)
        self.assertIs(same_helm(HAND, (row(-2), row(1))), False)
        self.assertIs(same_helm((row(2), SLOW), (row(2), WILD)), False)
        self.assertIs(same_helm((row(10 ** 40), row(1)), (row(10 ** 40 + 1), row(1))), False)


if __name__ == "__main__":
    unittest.main()

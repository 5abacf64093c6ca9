"""Rules: which helms follow them, which rules some helm follows, what is left of a rule."""

import unittest
from fractions import Fraction

from allhelms.answers import answer_of, answer_product, answer_sum, dies_out
from allhelms.helms import base_helm, helm_of, least_helm
from allhelms.loops import is_steady_loop, shown
from allhelms.machines import core_of, hidden_part, is_helm
from allhelms.rows import divides
from allhelms.rules import can_follow, following_helm, follows, rule_left, unfollowed_start
from tests.things import (BACK, CALM, CART, CORES, DEAF, HAND, HELMS, HIDING, IDLE, KEEP, LATE, LOST, MACHINES, ODD,
                          RULES, SHY, STUCK, TURN, TWICE, beats, grown, sides)
from tests.tools import SLOW, SPRING, WILD, degree, is_plain_row, plain, plain_product, row

SILENT = ((), row(1))
LESS_ONE = (row(-1), row(1))
# Rows that are a product with no others, with whether they are steady.
PARTS = [(KEEP, False), (row(1, 1), False), (WILD, False), (SLOW, True), (TURN, False), (row(1, -4), False),
         (row(1, Fraction(-4, 3)), False), (SPRING, True), (row(1, Fraction(-3, 4)), True), (row(1, 10 ** 30), False)]
# Machines whose n is 0 at unsteady zeros, at steady ones, once and twice, beside zeros of m.
MANY = CORES + HIDING[::3] + LOST[::4] + [
    (row(0, 1, -2, 1), WILD), (row(0, 1, -4, 4), KEEP), (row(0, 0, 1, 0, 1), row(1, -3, 2)), (row(0, 1, -1), SLOW),
    (row(0, 2, 1), plain_product(KEEP, KEEP)), (row(0, 1), plain_product(TURN, KEEP)), (row(0, 1, 1), TURN)]


def times_in(value, part):
    """How often a part is in a row, other than ()."""
    many, power = 0, part
    while divides(power, value):
        many, power = many + 1, plain_product(power, part)
    return many


def made_of_parts(rule):
    """Whether a rule is a product of the parts alone."""
    return sum(times_in(rule, part) * degree(part) for part, _ in PARTS) == degree(rule)


def follows_by_parts(machine, helm, rule):
    """Each unsteady part of the rule is in m b, as often."""
    whole = plain_product(machine[1], helm[1])
    return all(steady or times_in(whole, part) >= times_in(rule, part) for part, steady in PARTS)


def error(machine, helm, goal):
    """The answer of what is left of a goal without starts and push."""
    y = shown(machine, helm, goal, SILENT, (), ())[0]
    return answer_sum(goal, answer_product(LESS_ONE, y))


def goals(rule):
    """Goals of a rule: those of the starts of all degrees below its own."""
    return [answer_of(start, rule) for start in sides(degree(rule))]


def steadying(machine):
    """Helms that steady a machine."""
    frees = [SILENT, (row(1), row(1)), (row(0, -2), SLOW), (row(1), SPRING)]
    helms = [helm_of(machine, free) for free in frees]
    helms += [grown(helms[1], SLOW), least_helm(machine, plain_product(hidden_part(machine), SPRING))]
    return helms + [helm for helm in HELMS if is_steady_loop(machine, helm)]


STEADY_LOOPS = [(machine, helm) for machine in MANY if machine not in LOST for helm in steadying(machine)]


class Following(unittest.TestCase):

    def test_the_rules_are_made_of_parts(self):
        for rule in RULES:
            self.assertIs(made_of_parts(rule), True)

    def test_follows(self):
        found = []
        for machine, helm in STEADY_LOOPS:
            for rule in RULES:
                with self.subTest(machine=machine, helm=helm, rule=rule):
                    told = follows(machine, helm, rule)
                    self.assertIs(told, follows_by_parts(machine, helm, rule))
                    self.assertIs(follows(rule=rule, helm=helm, machine=machine), told)
                    found.append(told)
        self.assertGreater(found.count(True), 100)
        self.assertGreater(found.count(False), 100)

    def test_errors_of_all_goals(self):
        for machine, helm in STEADY_LOOPS[::5]:
            for rule in RULES:
                with self.subTest(machine=machine, helm=helm, rule=rule):
                    wanted = all(dies_out(error(machine, helm, goal)) for goal in goals(rule))
                    self.assertIs(follows(machine, helm, rule), wanted)

    def test_helms_that_follow(self):
        for machine in MANY:
            for rule in RULES:
                helm = following_helm(machine, rule)
                if helm is not None:
                    self.assertIs(follows(machine, helm, rule), True)
                    self.assertIsNone(unfollowed_start(machine, helm, rule))

    def test_unfollowed_starts(self):
        for machine, helm in STEADY_LOOPS:
            for rule in RULES:
                with self.subTest(machine=machine, helm=helm, rule=rule):
                    start = unfollowed_start(machine, helm, rule)
                    self.assertEqual(unfollowed_start(rule=rule, helm=helm, machine=machine), start)
                    self.assertIs(start is None, follows_by_parts(machine, helm, rule))
                    if start is not None:
                        self.assertTrue(is_plain_row(start))
                        self.assertLess(degree(start), degree(rule))
                        self.assertIs(dies_out(error(machine, helm, answer_of(start, rule))), False)

    def test_beat_by_beat(self):
        many = 70
        for machine, helm, rule in ((CART, HAND, KEEP), (CART, HAND, TURN), (CALM, IDLE, WILD),
                                    (BACK, base_helm(BACK), row(1, -2, 1))):
            start = unfollowed_start(machine, helm, rule)
            goal = beats((row(0, 1), rule), IDLE, [Fraction(0)] * many, [Fraction(0)] * many, start, ())[0]
            y = beats(machine, helm, goal, [Fraction(0)] * many, (), ())[0]
            left = [abs(x - z) for x, z in zip(goal, y)]
            self.assertGreaterEqual(max(left[-6:]), 1)

    def test_by_hand(self):
        sure = (row(3, -2), KEEP)
        self.assertIs(follows(CART, sure, KEEP), True)
        self.assertIs(follows(CART, HAND, KEEP), False)
        # A zero of m does as well as one of b, once each makes two.
        self.assertIs(follows(CART, HAND, WILD), True)
        self.assertIs(follows(CART, HAND, row(1, -4, 4)), False)
        self.assertIs(follows(TWICE, base_helm(TWICE), row(1, -4, 4)), True)
        self.assertIs(follows(BACK, base_helm(BACK), row(1, -2, 1)), False)
        keeps = following_helm(BACK, row(1, -2, 1))
        self.assertIs(follows(BACK, keeps, row(1, -2, 1)), True)
        # Steady zeros of a rule go by themselves.
        self.assertIs(follows(CART, HAND, SLOW), True)
        self.assertIs(follows(CART, HAND, plain_product(SLOW, KEEP)), False)
        self.assertIs(follows(CART, sure, plain_product(SLOW, KEEP)), True)
        self.assertIs(follows(CART, HAND, row(1, Fraction(10 ** 30 - 1, 10 ** 30))), True)


class SomeHelm(unittest.TestCase):

    def can(self, machine, rule):
        """The hidden part is steady, and no unsteady part of the rule that m' leaves is in n'."""
        n, m = core_of(machine)
        return machine not in LOST and not any(
            times_in(rule, part) > times_in(m, part) and divides(part, n) for part, steady in PARTS if not steady)

    def test_some_helm(self):
        found = []
        for machine in MANY:
            for rule in RULES:
                with self.subTest(machine=machine, rule=rule):
                    wanted = self.can(machine, rule)
                    found.append(wanted)
                    self.assertIs(can_follow(machine, rule), wanted)
                    self.assertIs(can_follow(rule=rule, machine=machine), wanted)
                    helm = following_helm(machine, rule)
                    self.assertEqual(following_helm(rule=rule, machine=machine), helm)
                    if not wanted:
                        self.assertIsNone(helm)
                        continue
                    self.assertIs(is_helm(helm), True)
                    self.assertIs(is_steady_loop(machine, helm), True)
                    self.assertIs(follows_by_parts(machine, helm, rule), True)
                    for goal in goals(rule)[-2:]:
                        self.assertIs(dies_out(error(machine, helm, goal)), True)
        self.assertGreater(found.count(True), 100)
        self.assertGreater(found.count(False), 50)

    def test_none_where_no_helm_steadies(self):
        for machine in LOST:
            for rule in (KEEP, SLOW, WILD):
                with self.subTest(machine=machine, rule=rule):
                    self.assertIs(can_follow(machine, rule), False)
                    self.assertIsNone(following_helm(machine, rule))

    def test_none_of_these_follows(self):
        # FOR ALL helms that steady it: those of several free answers.
        for machine, rule in ((DEAF, KEEP), (SHY, row(1, -4)), (ODD, row(1, Fraction(-4, 3))), (BACK, WILD),
                              (DEAF, plain_product(KEEP, WILD))):
            self.assertIs(can_follow(machine, rule), False)
            for helm in steadying(machine):
                self.assertIs(follows(machine, helm, rule), False)
                self.assertIs(dies_out(error(machine, helm, (row(1), rule))), False)

    def test_by_hand(self):
        self.assertIs(can_follow(CART, KEEP), True)
        self.assertIs(can_follow(DEAF, KEEP), False)
        self.assertIs(can_follow(DEAF, row(1, 1)), True)
        # A zero of n' that is steady does no harm, nor one of the rule that is.
        self.assertIs(can_follow((row(0, 2, -1), WILD), SLOW), True)
        self.assertIs(can_follow((row(0, 2, -1), WILD), plain_product(SLOW, KEEP)), True)
        self.assertIs(can_follow(STUCK, SLOW), False)
        self.assertIs(can_follow(grown(CART, SLOW), row(1, -2, 1)), True)


class Left(unittest.TestCase):

    def test_what_is_left(self):
        for machine in MACHINES:
            m = core_of(machine)[1]
            for rule in RULES:
                with self.subTest(machine=machine, rule=rule):
                    told = rule_left(machine, rule)
                    self.assertEqual(rule_left(rule=rule, machine=machine), told)
                    self.assertTrue(is_plain_row(told))
                    self.assertEqual(plain(told)[0], 1)
                    wanted = row(1)
                    for part, _ in PARTS:
                        for _ in range(max(0, times_in(rule, part) - times_in(m, part))):
                            wanted = plain_product(wanted, part)
                    self.assertEqual(told, wanted)

    def test_by_hand(self):
        self.assertEqual(rule_left(CART, KEEP), KEEP)
        self.assertEqual(rule_left(BACK, KEEP), row(1))
        self.assertEqual(rule_left(BACK, row(1, -2, 1)), KEEP)
        self.assertEqual(rule_left(TWICE, row(1, -4, 4)), row(1))
        self.assertEqual(rule_left(LATE, row(1, Fraction(3, 2), Fraction(-5, 2))), KEEP)
        # By m', not by m: what is hidden does not count.
        self.assertEqual(rule_left(STUCK, WILD), WILD)
        self.assertEqual(rule_left(grown(CART, SLOW), plain_product(SLOW, WILD)), SLOW)
        self.assertEqual(rule_left(grown(CART, WILD), row(1, -4, 4)), WILD)


if __name__ == "__main__":
    unittest.main()

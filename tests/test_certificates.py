"""Certificates: on both sides of what they tell their papers are accepted, and their parts are the arguments."""

import unittest
from fractions import Fraction

from allhelms.answers import answer_of
from allhelms.certificates import (certify_bends, certify_both, certify_closing, certify_error, certify_follows,
                                   certify_free, certify_least, certify_loop, certify_machine, certify_over,
                                   certify_rule, certify_steady_helm, certify_sum, certify_worst)
from allhelms.checker import accepts
from allhelms.errors import (InvalidAnswer, InvalidFraction, InvalidHelm, InvalidMachine, InvalidNumber, InvalidRow,
                             InvalidRule, NoHelm, NotSteady, NotTold)
from allhelms.helms import free_answer, helm_of, least_helm
from allhelms.least import is_told, least_worst
from allhelms.limits import error_answer, fixed_sum, is_error
from allhelms.loops import fewest_beats, is_steady_loop
from allhelms.machines import can_be_steadied
from allhelms.parity import has_steady_helm, one_for_both
from allhelms.rules import can_follow, follows
from allhelms.steady import bends_of, is_steady
from allhelms.worst import worst_near
from tests.checks import ErrorCase
from tests.things import BACK, CART, HAND, HELMS, IDLE, KEEP, LOST, MACHINES, ODD, RULES, STUCK, grown
from tests.tools import HALF, LESS, NIL, ONE, SLOW, SPRING, WILD, plain_product, row, some_rows

F = Fraction
ROWS = [value for value in some_rows(21, 25) if value != ()] + [SLOW, WILD, SPRING, KEEP, row(1), row(0, 1),
                                                                  row(10 ** 40, 1), row(1, 10 ** 40)]
STEADIED = [machine for machine in MACHINES if can_be_steadied(machine)]
ERRORS = [(WILD, row(1)), (row(1), row(1)), ((), row(1)), (row(1), WILD), (plain_product(KEEP, WILD), SPRING)]
OTHER_MACHINES = [ODD, (row(0, -1), WILD), (row(0, 1), row(1, 2)), (row(0, 1, 0, -2), row(1, -2)),
                  grown((row(0, 1, 0, -2), row(1, -2)), SPRING)]


class Certificates(unittest.TestCase):

    def check(self, call, names, arguments, wanted, other=None):
        """The claim begins with the wanted word, has the arguments as its first parts, and is accepted."""
        told = call(*arguments)
        with self.subTest(call=call.__name__, arguments=arguments):
            self.assertIs(type(told), tuple)
            self.assertEqual(len(told), 2)
            claim, paper = told
            self.assertEqual(claim[0], wanted)
            self.assertIs(accepts(claim, paper), True)
            self.assertEqual(call(**dict(zip(names.split(), arguments))), told)
            if other is not None:
                self.assertIs(accepts((other,) + claim[1:], paper), False)
        return claim, paper

    def parts(self, claim, *wanted):
        """The parts are these very things."""
        self.assertEqual(len(claim), len(wanted) + 1)
        for part, thing in zip(claim[1:], wanted):
            self.assertIs(part, thing)

    def test_bends(self):
        for value in ROWS:
            if is_steady(value):
                claim, paper = self.check(certify_bends, "row", [value], "bends")
                self.assertEqual(claim[1:], (value, bends_of(value)))
                self.assertEqual(paper, ())
            else:
                claim, paper = self.check(certify_bends, "row", [value], "unsteady")
                self.assertEqual((claim, paper), (("unsteady", value), ()))
            self.assertIs(claim[1], value)

    def test_loops(self):
        words = "loop steady", "runs away"
        for machine in MACHINES:
            for helm in HELMS:
                at = not is_steady_loop(machine, helm)
                claim, _ = self.check(certify_loop, "machine helm", [machine, helm], words[at], words[not at])
                self.parts(claim, machine, helm)

    def test_machines(self):
        words = "can be steadied", "cannot be steadied"
        for machine in MACHINES + OTHER_MACHINES:
            at = not can_be_steadied(machine)
            claim, _ = self.check(certify_machine, "machine", [machine], words[at], words[not at])
            self.parts(claim, machine)

    def test_free_answers(self):
        for machine in STEADIED:
            for helm in HELMS + [helm_of(machine, (row(1, 10 ** 30), SLOW))]:
                if is_steady_loop(machine, helm):
                    claim, paper = self.check(certify_free, "machine helm", [machine, helm], "of free")
                    self.parts(claim[:3], machine, helm)
                    self.assertEqual(claim[3], free_answer(machine, helm))
                    self.assertEqual(paper, ())

    def test_following(self):
        words = "follows", "does not follow"
        for machine in MACHINES[::2]:
            for helm in HELMS:
                for rule in RULES if is_steady_loop(machine, helm) else []:
                    at = not follows(machine, helm, rule)
                    told = [machine, helm, rule]
                    claim, _ = self.check(certify_follows, "machine helm rule", told, words[at], words[not at])
                    self.parts(claim, machine, helm, rule)

    def test_rules(self):
        words = "can follow", "none follows"
        for machine in MACHINES:
            for rule in RULES:
                at = not can_follow(machine, rule)
                claim, _ = self.check(certify_rule, "machine rule", [machine, rule], words[at], words[not at])
                self.parts(claim, machine, rule)

    def test_errors(self):
        words = "error of one", "error of none"
        for machine in MACHINES:
            answers = ERRORS + [error_answer(machine, helm) for helm in HELMS if is_steady_loop(machine, helm)]
            for answer in answers:
                at = not is_error(machine, answer)
                claim, _ = self.check(certify_error, "machine answer", [machine, answer], words[at], words[not at])
                self.parts(claim, machine, answer)

    def test_sums(self):
        for machine in STEADIED:
            for x in (NIL, ONE, LESS, HALF, (-2, 5), (10 ** 30 - 1, 10 ** 30)):
                for value in (NIL, ONE, (-10 ** 40, 7)):
                    fixed = fixed_sum(machine, x)
                    word = "sum free" if fixed is None else "sum fixed"
                    claim, paper = self.check(certify_sum, "machine x value", [machine, x, value], word)
                    self.parts(claim[:3], machine, x)
                    if fixed is None:
                        self.parts(claim, machine, x, value)
                    else:
                        # Whichever the value is.
                        self.assertEqual((claim[3], paper), (fixed, ()))

    def test_worst(self):
        for top in (row(1), row(-3, 0, 10 ** 40), ()):
            for under in (row(1), SLOW, SPRING, row(1, F(-99, 100)), plain_product(SLOW, SPRING)):
                answer = answer_of(top, under)
                for many in (1, 50, 10 ** 6):
                    claim, _ = self.check(certify_worst, "answer many", [answer, many], "worst within")
                    self.parts(claim[:2], answer)
                    self.assertEqual(claim[2:], worst_near(answer, many))

    def test_closings(self):
        words = "closed by", "never closed by"
        for machine in MACHINES:
            for wished in [row(1), SLOW, WILD, KEEP, plain_product(WILD, SPRING), plain_product(SLOW, WILD)]:
                at = least_helm(machine, wished) is None
                claim, _ = self.check(certify_closing, "machine wished", [machine, wished], words[at], words[not at])
                self.parts(claim, machine, wished)

    def test_over(self):
        for machine in MACHINES:
            number = fewest_beats(machine)
            claim, _ = self.check(certify_over, "machine", [machine], "never over" if number is None else "over")
            self.parts(claim[:2], machine)
            self.assertEqual(claim[2:], () if number is None else (number,))

    def test_least(self):
        many = 0
        for machine in MACHINES + OTHER_MACHINES:
            if is_told(machine):
                claim, paper = self.check(certify_least, "machine", [machine], "least worst")
                self.parts(claim[:2], machine)
                self.assertEqual(claim[2:], (least_worst(machine),))
                self.assertEqual(len(paper), 2)
                many += 1
        self.assertGreater(many, 10)

    def test_steady_helms(self):
        words, found = ("steady helm", "no steady helm"), []
        for machine in STEADIED + OTHER_MACHINES:
            at = not has_steady_helm(machine)
            found.append(at)
            claim, _ = self.check(certify_steady_helm, "machine", [machine], words[at], words[not at])
            self.parts(claim, machine)
        self.assertGreater(min(found.count(True), found.count(False)), 3)

    def test_both(self):
        words, found = ("one for both", "none for both"), []
        for machine in STEADIED[::3] + OTHER_MACHINES:
            for other in STEADIED[::4] + OTHER_MACHINES:
                at = not one_for_both(machine, other)
                found.append(at)
                claim, _ = self.check(certify_both, "machine other", [machine, other], words[at], words[not at])
                self.parts(claim, machine, other)
        self.assertGreater(min(found.count(True), found.count(False)), 20)


class Errors(ErrorCase):

    def nothing(self, error, call, *arguments):
        """The call raises just this error, without attributes."""
        self.fails(error, None, None, call, *arguments)

    def test_machines_that_no_helm_steadies(self):
        for machine in LOST:
            self.assertEqual(certify_machine(machine)[0], ("cannot be steadied", machine))
            self.assertEqual(certify_rule(machine, SLOW), (("none follows", machine, SLOW), ()))
            self.assertEqual(certify_error(machine, ERRORS[0]), (("error of none", machine, ERRORS[0]), ()))
            self.assertEqual(certify_over(machine)[0], ("never over", machine))
            self.assertEqual(certify_loop(machine, HAND)[0], ("runs away", machine, HAND))
            for value in (certify_machine(machine), certify_rule(machine, SLOW), certify_over(machine),
                          certify_loop(machine, HAND), certify_error(machine, ERRORS[0])):
                self.assertIs(accepts(*value), True)
            for call, rest in ((certify_free, [HAND]), (certify_sum, [NIL, ONE]), (certify_least, []),
                               (certify_steady_helm, []), (certify_both, [CART])):
                self.nothing(NoHelm, call, machine, *rest)
            self.nothing(NoHelm, certify_both, CART, machine)
            self.nothing(NotSteady, certify_follows, machine, HAND, KEEP)

    def test_told_last(self):
        self.nothing(NotSteady, certify_free, CART, IDLE)
        self.nothing(NotSteady, certify_follows, CART, IDLE, KEEP)
        self.nothing(NotSteady, certify_worst, (row(1), WILD), 7)
        self.nothing(NotTold, certify_least, BACK)
        self.nothing(NotTold, certify_least, grown(BACK, SLOW))

    def test_the_first_wrong_argument(self):
        loose, long, empty = (2, 4), 10 ** 7, ()
        self.fails_given(InvalidRow, empty, certify_bends, empty)
        self.fails_given(InvalidMachine, HAND, certify_loop, HAND, WILD)
        self.fails_given(InvalidHelm, WILD, certify_free, STUCK, WILD)
        self.fails_given(InvalidHelm, WILD, certify_follows, STUCK, WILD, SLOW)
        self.fails_given(InvalidRule, empty, certify_follows, STUCK, HAND, empty)
        self.fails_given(InvalidRule, empty, certify_rule, STUCK, empty)
        self.fails_given(InvalidAnswer, WILD, certify_error, STUCK, WILD)
        self.fails_given(InvalidFraction, loose, certify_sum, STUCK, loose, 7)
        self.fails_given(InvalidFraction, loose, certify_sum, STUCK, HALF, loose)
        self.fails_given(InvalidNumber, long, certify_worst, (row(1), WILD), long)
        self.fails_given(InvalidAnswer, WILD, certify_worst, WILD, long)
        self.fails_given(InvalidRow, empty, certify_closing, STUCK, empty)
        self.fails_given(InvalidMachine, HAND, certify_both, STUCK, HAND)
        self.fails_given(InvalidMachine, HAND, certify_both, HAND, WILD)


if __name__ == "__main__":
    unittest.main()

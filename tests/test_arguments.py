"""Arguments: by position and by name, each wrong one alone, two at once, and what is told with last."""

import importlib
import unittest

from allhelms.errors import (InvalidAnswer, InvalidHelm, InvalidMachine, InvalidRow, InvalidRule, InvalidStart,
                             NoHelm, NotSteady)
from allhelms.helms import base_helm, free_answer, helm_of
from allhelms.loops import shown
from allhelms.rules import follows, unfollowed_start
from tests.checks import ErrorCase
from tests.test_interface import INTERFACE
from tests.things import (BACK, CART, DEAF, HAND, IDLE, KEEP, LOST, NO_HELMS, NO_LED_ROWS, NO_MACHINES, NO_RULES,
                          STUCK, TURN, grown)
from tests.tools import NO_ANSWERS, NO_ROWS, ONE, SLOW, WILD, row

HELM = (row(3, -2), KEEP)
STEP, SILENT, GROW = (row(1), KEEP), ((), row(1)), (row(1), WILD)

# A right value for each parameter, the error of a wrong one, and what is wrong.
RIGHT = {"machine": CART, "helm": HELM, "other": HAND, "goal": STEP, "push": SILENT, "start": row(5),
         "turn": row(7), "free": SILENT, "wished": SLOW, "rule": KEEP, "value": 3}
WRONG = {"machine": (InvalidMachine, NO_MACHINES), "helm": (InvalidHelm, NO_HELMS),
         "other": (InvalidHelm, NO_HELMS), "goal": (InvalidAnswer, NO_ANSWERS),
         "push": (InvalidAnswer, NO_ANSWERS), "start": (InvalidStart, NO_ROWS + [row(0, 1), row(5, 0, 1), WILD]),
         "turn": (InvalidStart, NO_ROWS + [row(0, 1), row(5, 0, 1), WILD]),
         "free": (InvalidAnswer, NO_ANSWERS), "wished": (InvalidRow, NO_LED_ROWS), "rule": (InvalidRule, NO_RULES)}


def calls():
    """Each function of these files, with the names of its parameters."""
    found = []
    for file in ("machines", "loops", "helms", "rules"):
        module = importlib.import_module("allhelms." + file)
        for name, parameters in INTERFACE[file].items():
            if parameters != "value":
                found.append((getattr(module, name), parameters.split()))
    return found


class Arguments(ErrorCase):

    def test_by_position_and_by_name(self):
        for call, names in calls():
            with self.subTest(call=call.__name__):
                told = call(*[RIGHT[name] for name in names])
                self.assertEqual(call(**{name: RIGHT[name] for name in reversed(names)}), told)
                self.assertEqual(call(RIGHT[names[0]], **{name: RIGHT[name] for name in names[1:]}), told)

    def test_one_wrong_argument(self):
        for call, names in calls():
            for wrong in names:
                error, values = WRONG[wrong]
                for at, value in enumerate(values):
                    given = {name: RIGHT[name] for name in names}
                    given[wrong] = value
                    with self.subTest(call=call.__name__, wrong=wrong, at=at):
                        self.fails_given(error, value, call, *[given[name] for name in names])
                        self.fails_given(error, value, call, **given)

    def test_two_wrong_arguments(self):
        for call, names in calls():
            for at, first in enumerate(names):
                for second in names[at + 1:]:
                    error, values = WRONG[first]
                    for k, value in enumerate(values[::7]):
                        given = {name: RIGHT[name] for name in names}
                        given[second] = WRONG[second][1][k]
                        given[first] = value
                        with self.subTest(call=call.__name__, first=first, second=second):
                            self.fails_given(error, value, call, *[given[name] for name in names])
                            told = {name: given[name] for name in reversed(names)}
                            self.fails_given(error, value, call, **told)

    def test_arguments_stay(self):
        for call, names in calls():
            given = {name: RIGHT[name] for name in names}
            before = repr(given)
            self.assertEqual(call(**given), call(**given))
            self.assertEqual(repr(given), before)


class Exchanged(ErrorCase):
    """Machines for helms and the like, of which each is right by itself."""

    def test_kinds(self):
        for call, names in calls():
            if names[:2] == ["machine", "helm"]:
                rest = [RIGHT[name] for name in names[2:]]
                self.fails_given(InvalidMachine, HAND, call, HAND, CART, *rest)
                self.fails_given(InvalidHelm, WILD, call, CART, WILD, *rest)

    def test_starts_just_at_the_size(self):
        for machine in (CART, BACK, grown(BACK, TURN)):
            for helm in (IDLE, HELM, grown(HELM, TURN)):
                size = max(len(machine[0]), len(machine[1])) - 1
                turns = len(helm[1]) - 1
                long, late = ((0, 1),) * size + (ONE,), ((0, 1),) * turns + (ONE,)
                with self.subTest(machine=machine, helm=helm):
                    self.fails_given(InvalidStart, long, shown, machine, helm, STEP, STEP, long, ())
                    self.fails_given(InvalidStart, late, shown, machine, helm, STEP, STEP, (), late)
                    self.fails_given(InvalidStart, long, shown, machine, helm, STEP, STEP, long, late)
                    self.assertEqual(len(shown(machine, helm, STEP, STEP, long[1:], late[1:])), 2)


class ToldLast(ErrorCase):

    def nothing(self, error, call, *arguments):
        """The call raises just this error, without attributes."""
        self.fails(error, None, None, call, *arguments)

    def test_no_helm(self):
        for machine in LOST:
            with self.subTest(machine=machine):
                self.nothing(NoHelm, base_helm, machine)
                self.nothing(NoHelm, helm_of, machine, SILENT)
                self.nothing(NoHelm, free_answer, machine, HAND)
                # Ahead of what is told behind it, behind all arguments.
                self.nothing(NoHelm, helm_of, machine, GROW)
                self.nothing(NoHelm, free_answer, machine, IDLE)
                self.fails_given(InvalidAnswer, WILD, helm_of, machine, WILD)
                self.fails_given(InvalidHelm, WILD, free_answer, machine, WILD)
        self.fails(NoHelm, None, None, base_helm, machine=STUCK)
        self.fails(NoHelm, None, None, helm_of, free=GROW, machine=STUCK)
        self.fails(NoHelm, None, None, free_answer, helm=HAND, machine=STUCK)

    def test_not_steady(self):
        for free in (GROW, STEP, (row(1), row(1, 1)), (row(1), TURN), (row(3), row(1, -3, 1))):
            for machine in (CART, BACK, grown(CART, SLOW)):
                with self.subTest(machine=machine, free=free):
                    self.nothing(NotSteady, helm_of, machine, free)
        for helm in (IDLE, ((), SLOW), grown(HAND, KEEP), grown(HAND, WILD)):
            with self.subTest(helm=helm):
                self.nothing(NotSteady, free_answer, CART, helm)
                self.nothing(NotSteady, free_answer, grown(CART, SLOW), helm)
        self.fails(NotSteady, None, None, helm_of, free=GROW, machine=CART)
        self.fails(NotSteady, None, None, free_answer, helm=IDLE, machine=CART)
        self.fails_given(InvalidMachine, HAND, helm_of, HAND, GROW)
        self.fails_given(InvalidMachine, HAND, free_answer, HAND, IDLE)

    def test_not_steady_and_rules(self):
        bare = (ONE,)
        for call in (follows, unfollowed_start):
            for machine, helm in ((CART, IDLE), (CART, grown(HAND, WILD)), (STUCK, HAND), (DEAF, IDLE)):
                with self.subTest(call=call.__name__, machine=machine, helm=helm):
                    self.nothing(NotSteady, call, machine, helm, KEEP)
                    self.nothing(NotSteady, call, machine, helm, SLOW)
                    self.fails(NotSteady, None, None, call, rule=KEEP, helm=helm, machine=machine)
                    self.fails_given(InvalidRule, bare, call, machine, helm, bare)
                    self.fails_given(InvalidHelm, WILD, call, machine, WILD, bare)
                    self.fails_given(InvalidMachine, HAND, call, HAND, helm, bare)


if __name__ == "__main__":
    unittest.main()

"""Arguments: by position and by name, each wrong one alone, two at once, and what is told with last."""

import importlib
import unittest

from allhelms.certificates import (certify_both, certify_follows, certify_free, certify_least, certify_steady_helm,
                                   certify_sum, certify_worst)
from allhelms.errors import (InvalidAnswer, InvalidFraction, InvalidHelm, InvalidMachine, InvalidNumber, InvalidRow,
                             InvalidRule, InvalidStart, NoHelm, NotAZero, NotSteady, NotTold)
from allhelms.helms import base_helm, free_answer, helm_of
from allhelms.least import are_weights, calmest_helm, least_row, least_worst, told_zeros, worst_weights
from allhelms.limits import error_answer, fixed_sum, helm_with_error, helm_with_sum, is_error, least_dip, least_peak
from allhelms.loops import shown
from allhelms.parity import (difference_of, has_steady_helm, is_parting, one_for_both, parting_of_both,
                             parting_stretch)
from allhelms.rules import follows, unfollowed_start
from allhelms.worst import is_bound, worst_near, worst_row
from tests.checks import ErrorCase
from tests.test_interface import INTERFACE
from tests.things import (BACK, CART, DEAF, HAND, IDLE, KEEP, LOST, NO_HELMS, NO_LED_ROWS, NO_MACHINES, NO_RULES,
                          ODD, SHY, STUCK, TURN, grown)
from tests.tools import (HALF, LESS, NIL, NO_ANSWERS, NO_FRACTIONS, NO_ROWS, NO_TUPLES, ONE, SLOW, TWO, WILD, deep,
                         row)

HELM = (row(3, -2), KEEP)
STEP, SILENT, GROW = (row(1), KEEP), ((), row(1)), (row(1), WILD)

# A right value for each parameter, the error of a wrong one, and what is wrong.
RIGHT = {"machine": CART, "helm": HELM, "other": HAND, "goal": STEP, "push": SILENT, "start": row(5),
         "turn": row(7), "free": SILENT, "wished": SLOW, "rule": KEEP, "value": 3}
WRONG = {"machine": (InvalidMachine, NO_MACHINES), "helm": (InvalidHelm, NO_HELMS),
         "other": (InvalidHelm, NO_HELMS), "goal": (InvalidAnswer, NO_ANSWERS),
         "push": (InvalidAnswer, NO_ANSWERS), "start": (InvalidStart, NO_ROWS + [row(0, 1), row(5, 0, 1), WILD]),
         "turn": (InvalidStart, NO_ROWS + [row(0, 1), row(5, 0, 1), WILD]),
         "free": (InvalidAnswer, NO_ANSWERS), "wished": (InvalidRow, NO_LED_ROWS), "rule": (InvalidRule, NO_RULES)}

NO_INNER = NO_FRACTIONS + [(3, 2), (-3, 2), (10 ** 30 + 1, 10 ** 30), (-10 ** 30 - 1, 10 ** 30), TWO, (-2, 1)]
NO_BETWEEN = NO_INNER + [NIL, ONE, LESS, (-1, 2), (-1, 10 ** 30)]
NO_SLACKS = NO_INNER + [ONE, LESS, (-1, 2), (-1, 10 ** 30)]
NO_WHOLES = [None, True, False, "", "2", (), (2,), (2, 1), [], [2], {}, set(), object(), range(2), int, deep(14)]
NO_BEATS = NO_WHOLES + [0, 1, 61, -2, 10 ** 40]
NO_MANY = NO_WHOLES + [0, -1, 10 ** 6 + 1, 10 ** 40]
NO_FILLED_ROWS = NO_ROWS + [()]

# What is right and wrong for a parameter of these files or functions alone.
RIGHT_THERE = {
    ("parity", "other"): BACK, ("certificates", "other"): BACK, ("limits", "answer"): (WILD, row(1)),
    ("certify_error", "answer"): (WILD, row(1)), ("worst", "answer"): (row(1), SLOW), ("limits", "x"): HALF,
    ("certify_worst", "answer"): (row(1), SLOW), ("certificates", "x"): NIL, ("limits", "value"): NIL,
    ("certificates", "value"): NIL, ("limits", "beat"): 2, ("limits", "slack"): HALF, ("least_dip", "machine"): BACK,
    ("worst", "many"): 7, ("certificates", "many"): 10 ** 6, ("worst", "low"): LESS, ("worst", "high"): (9, 1),
    ("certificates", "row"): SLOW}
WRONG_THERE = {
    ("parity", "other"): (InvalidMachine, NO_MACHINES), ("certificates", "other"): (InvalidMachine, NO_MACHINES),
    ("limits", "answer"): (InvalidAnswer, NO_ANSWERS), ("certificates", "answer"): (InvalidAnswer, NO_ANSWERS),
    ("worst", "answer"): (InvalidAnswer, NO_ANSWERS), ("limits", "x"): (InvalidFraction, NO_INNER),
    ("least_dip", "x"): (InvalidFraction, NO_BETWEEN), ("least_peak", "x"): (InvalidFraction, NO_BETWEEN),
    ("certificates", "x"): (InvalidFraction, NO_INNER), ("limits", "value"): (InvalidFraction, NO_FRACTIONS),
    ("certificates", "value"): (InvalidFraction, NO_FRACTIONS), ("limits", "beat"): (InvalidNumber, NO_BEATS),
    ("limits", "slack"): (InvalidFraction, NO_SLACKS), ("worst", "many"): (InvalidNumber, NO_MANY),
    ("certificates", "many"): (InvalidNumber, NO_MANY), ("worst", "low"): (InvalidFraction, NO_FRACTIONS),
    ("worst", "high"): (InvalidFraction, NO_FRACTIONS), ("certificates", "row"): (InvalidRow, NO_FILLED_ROWS)}


def here(table, there, call, name):
    """What a table tells of a parameter, by the function, by its file, or in general."""
    file = call.__module__.split(".")[1]
    return there.get((call.__name__, name), there.get((file, name), table.get(name)))


def right(call, names):
    """A right value for each parameter."""
    return {name: here(RIGHT, RIGHT_THERE, call, name) for name in names}


def wrongs(call, name):
    """The error of wrong values for a parameter, and these; none if any value is right."""
    return here(WRONG, WRONG_THERE, call, name) or (None, [])


def calls():
    """Each function of these files, with the names of its parameters."""
    found = []
    for file in ("machines", "loops", "helms", "rules", "limits", "worst", "least", "parity", "certificates"):
        module = importlib.import_module("allhelms." + file)
        for name, parameters in INTERFACE[file].items():
            if parameters != "value":
                found.append((getattr(module, name), parameters.split()))
    return found


class Arguments(ErrorCase):

    def test_by_position_and_by_name(self):
        for call, names in calls():
            given = right(call, names)
            with self.subTest(call=call.__name__):
                told = call(*[given[name] for name in names])
                self.assertEqual(call(**{name: given[name] for name in reversed(names)}), told)
                self.assertEqual(call(given[names[0]], **{name: given[name] for name in names[1:]}), told)

    def test_one_wrong_argument(self):
        for call, names in calls():
            for wrong in names:
                error, values = wrongs(call, wrong)
                for at, value in enumerate(values):
                    given = right(call, names)
                    given[wrong] = value
                    with self.subTest(call=call.__name__, wrong=wrong, at=at):
                        self.fails_given(error, value, call, *[given[name] for name in names])
                        self.fails_given(error, value, call, **given)

    def test_two_wrong_arguments(self):
        for call, names in calls():
            for at, first in enumerate(names):
                for second in names[at + 1:]:
                    error, values = wrongs(call, first)
                    others = wrongs(call, second)[1]
                    for k, value in enumerate(values[::7] if others else []):
                        given = right(call, names)
                        given[second] = others[k % len(others)]
                        given[first] = value
                        with self.subTest(call=call.__name__, first=first, second=second):
                            self.fails_given(error, value, call, *[given[name] for name in names])
                            told = {name: given[name] for name in reversed(names)}
                            self.fails_given(error, value, call, **told)

    def test_each_parameter_is_tried(self):
        free = {("is_bound", "value"), ("are_weights", "value"), ("is_parting", "value")}
        for call, names in calls():
            for name in names:
                if (call.__name__, name) not in free:
                    self.assertNotEqual(wrongs(call, name)[1], [], (call.__name__, name))

    def test_arguments_stay(self):
        for call, names in calls():
            given = right(call, names)
            before = repr(given)
            self.assertEqual(call(**given), call(**given))
            self.assertEqual(repr(given), before)


class Exchanged(ErrorCase):
    """Machines for helms and the like, of which each is right by itself."""

    def test_kinds(self):
        for call, names in calls():
            if names[:2] == ["machine", "helm"]:
                rest = list(right(call, names[2:]).values())
                self.fails_given(InvalidMachine, HAND, call, HAND, CART, *rest)
                self.fails_given(InvalidHelm, WILD, call, CART, WILD, *rest)

    def test_starts_just_at_the_size(self):
        for machine in (CART, BACK, grown(BACK, TURN)):
            for helm in (IDLE, HELM, grown(HELM, TURN)):
                size = max(len(machine[0]), len(machine[1])) - 1
                turns = len(helm[1]) - 1
                long, late = ((0, 1),) * size + (ONE,), ((0, 1),) * turns + (ONE,)
                with self.subTest(machine=machine, helm=helm):
                    self.fails_given(InvalidStart, long, shown, machine, helm, STEP, STEP, long, ())
                    self.fails_given(InvalidStart, late, shown, machine, helm, STEP, STEP, (), late)
                    self.fails_given(InvalidStart, long, shown, machine, helm, STEP, STEP, long, late)
                    self.assertEqual(len(shown(machine, helm, STEP, STEP, long[1:], late[1:])), 2)


class ToldLast(ErrorCase):

    def nothing(self, error, call, *arguments):
        """The call raises just this error, without attributes."""
        self.fails(error, None, None, call, *arguments)

    def test_no_helm(self):
        for machine in LOST:
            with self.subTest(machine=machine):
                self.nothing(NoHelm, base_helm, machine)
                self.nothing(NoHelm, helm_of, machine, SILENT)
                self.nothing(NoHelm, free_answer, machine, HAND)
                # Ahead of what is told behind it, behind all arguments.
                self.nothing(NoHelm, helm_of, machine, GROW)
                self.nothing(NoHelm, free_answer, machine, IDLE)
                self.fails_given(InvalidAnswer, WILD, helm_of, machine, WILD)
                self.fails_given(InvalidHelm, WILD, free_answer, machine, WILD)
        self.fails(NoHelm, None, None, base_helm, machine=STUCK)
        self.fails(NoHelm, None, None, helm_of, free=GROW, machine=STUCK)
        self.fails(NoHelm, None, None, free_answer, helm=HAND, machine=STUCK)

    def test_not_steady(self):
        for free in (GROW, STEP, (row(1), row(1, 1)), (row(1), TURN), (row(3), row(1, -3, 1))):
            for machine in (CART, BACK, grown(CART, SLOW)):
                with self.subTest(machine=machine, free=free):
                    self.nothing(NotSteady, helm_of, machine, free)
        for helm in (IDLE, ((), SLOW), grown(HAND, KEEP), grown(HAND, WILD)):
            with self.subTest(helm=helm):
                self.nothing(NotSteady, free_answer, CART, helm)
                self.nothing(NotSteady, free_answer, grown(CART, SLOW), helm)
        self.fails(NotSteady, None, None, helm_of, free=GROW, machine=CART)
        self.fails(NotSteady, None, None, free_answer, helm=IDLE, machine=CART)
        self.fails_given(InvalidMachine, HAND, helm_of, HAND, GROW)
        self.fails_given(InvalidMachine, HAND, free_answer, HAND, IDLE)

    def test_not_steady_and_rules(self):
        bare = (ONE,)
        for call in (follows, unfollowed_start):
            for machine, helm in ((CART, IDLE), (CART, grown(HAND, WILD)), (STUCK, HAND), (DEAF, IDLE)):
                with self.subTest(call=call.__name__, machine=machine, helm=helm):
                    self.nothing(NotSteady, call, machine, helm, KEEP)
                    self.nothing(NotSteady, call, machine, helm, SLOW)
                    self.fails(NotSteady, None, None, call, rule=KEEP, helm=helm, machine=machine)
                    self.fails_given(InvalidRule, bare, call, machine, helm, bare)
                    self.fails_given(InvalidHelm, WILD, call, machine, WILD, bare)
                    self.fails_given(InvalidMachine, HAND, call, HAND, helm, bare)

    def test_error_answers_of_loops_that_are_not_steady(self):
        for machine, helm in ((CART, IDLE), (CART, grown(HAND, WILD)), (STUCK, HAND), (DEAF, IDLE)):
            for call in (error_answer, certify_follows):
                rest = [KEEP] if call is certify_follows else []
                self.nothing(NotSteady, call, machine, helm, *rest)
                self.fails_given(InvalidMachine, HAND, call, HAND, helm, *rest)
                self.fails_given(InvalidHelm, WILD, call, machine, WILD, *rest)

    def test_no_helm_in_the_later_files(self):
        loose = (2, 4)
        for machine in LOST:
            with self.subTest(machine=machine):
                for call in (least_worst, told_zeros, least_row, worst_weights, calmest_helm, has_steady_helm,
                             parting_stretch, certify_least, certify_steady_helm):
                    self.nothing(NoHelm, call, machine)
                    self.fails(NoHelm, None, None, call, machine=machine)
                self.nothing(NoHelm, are_weights, machine, 7)
                self.nothing(NoHelm, is_parting, machine, 7)
                for call in (fixed_sum, least_peak):
                    self.nothing(NoHelm, call, machine, HALF)
                    self.fails_given(InvalidFraction, loose, call, machine, loose)
                for call in (helm_with_sum, certify_sum):
                    self.nothing(NoHelm, call, machine, HALF, ONE)
                    self.fails_given(InvalidFraction, loose, call, machine, HALF, loose)
                self.nothing(NoHelm, least_dip, machine, (1, 7), 2, NIL)
                self.fails_given(InvalidNumber, 1, least_dip, machine, (1, 7), 1, NIL)
                self.fails_given(InvalidFraction, ONE, least_dip, machine, (1, 7), 2, ONE)
                self.nothing(NoHelm, certify_free, machine, IDLE)
                # Both machines are looked at before it is asked whether some helm steadies them.
                for call in (difference_of, one_for_both, parting_of_both, certify_both):
                    self.nothing(NoHelm, call, machine, CART)
                    self.nothing(NoHelm, call, CART, machine)
                    self.nothing(NoHelm, call, machine, machine)
                    self.fails_given(InvalidMachine, HAND, call, machine, HAND)
                    self.fails_given(InvalidMachine, HAND, call, HAND, machine)
                # These three tell that there is none.
                self.assertIs(is_error(machine, (WILD, row(1))), False)
                self.assertIsNone(helm_with_error(machine, (WILD, row(1))))
                self.nothing(NotSteady, error_answer, machine, HAND)

    def test_not_told(self):
        for machine in (BACK, DEAF, grown(BACK, SLOW)):
            for call in (least_worst, told_zeros, least_row, worst_weights, calmest_helm, certify_least):
                self.nothing(NotTold, call, machine)
                self.fails(NotTold, None, None, call, machine=machine)
            for value in (7, (), ((2, 1),)):
                self.nothing(NotTold, are_weights, machine, value)
        # Where no helm steadies the machine nothing is asked of its zeros.
        self.nothing(NoHelm, least_worst, grown(BACK, WILD))
        self.nothing(NoHelm, are_weights, grown(BACK, WILD), 7)

    def test_no_zero(self):
        for x in ((1, 3), (1, 10 ** 40), (10 ** 40 - 1, 10 ** 40)):
            self.fails_given(NotAZero, x, least_dip, BACK, x, 2, NIL)
            self.fails_given(NotAZero, x, least_peak, CART, x)
            self.fails_given(NotAZero, x, least_peak, machine=CART, x=x)
            self.fails_given(NotAZero, x, least_dip, machine=BACK, x=x, beat=60, slack=HALF)
        quarter = (1, 4)
        # A zero of the one row is none of the other one.
        self.fails_given(NotAZero, quarter, least_peak, SHY, quarter)
        self.fails_given(NotAZero, HALF, least_dip, SHY, HALF, 2, NIL)
        # Of n' and m', not of n and m: here 2 / 3 is one of the hidden part, 1 / 2 one of both.
        self.nothing(NoHelm, least_peak, grown(CART, row(1, -2)), HALF)
        self.fails_given(NotAZero, quarter, least_peak, grown(CART, SLOW), quarter)
        self.assertEqual(least_peak(grown(CART, SLOW), HALF), TWO)
        self.fails_given(InvalidNumber, 61, least_dip, BACK, quarter, 61, NIL)
        self.fails_given(InvalidFraction, ONE, least_dip, BACK, quarter, 2, ONE)
        self.fails_given(InvalidNumber, 1, least_dip, BACK, quarter, 1, ONE)

    def test_answers_that_are_not_steady(self):
        for answer in (GROW, STEP, (row(1), row(1, 1)), (row(1), TURN), (row(3), row(1, -3, 1))):
            for call in (worst_near, worst_row, certify_worst):
                self.nothing(NotSteady, call, answer, 1)
                self.fails(NotSteady, None, None, call, many=10 ** 6, answer=answer)
                self.fails_given(InvalidNumber, 0, call, answer, 0)
            self.assertIs(is_bound(answer, LESS, (10 ** 40, 1), row(1)), False)
            self.fails_given(InvalidFraction, "", is_bound, answer, "", "x", 1)
            self.fails_given(InvalidFraction, "x", is_bound, answer, NIL, "x", 1)

    def test_any_value_may_be_asked_about(self):
        for value in NO_TUPLES + NO_ROWS + NO_ANSWERS + NO_MACHINES + [deep(14)]:
            self.assertIs(is_parting(ODD, value), False)
            # Some of these are two small fractions: weights.
            two = repr(value) in [repr(told) for told in ((NIL, NIL), row(0, 1), (ONE, NIL), WILD)]
            self.assertIs(are_weights(SHY, value), two)
        for value in NO_ROWS:
            self.assertIs(is_bound((row(1), SLOW), LESS, (9, 1), value), False)


if __name__ == "__main__":
    unittest.main()

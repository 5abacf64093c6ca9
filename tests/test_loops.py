"""Loops: closing rows, the four answers, what is shown and told, running starts, how soon all is over."""

import unittest
from fractions import Fraction

from allhelms.answers import answer_of, answer_product, dies_out, first_numbers, is_answer
from allhelms.helms import least_helm
from allhelms.loops import (closing_row, fewest_beats, four_answers, is_steady_loop, last_beat, running_start,
                            shown)
from allhelms.machines import helm_size, size_of
from allhelms.steady import is_steady
from tests.things import (BACK, CALM, CART, CORES, HAND, HELMS, HIDING, IDLE, KEEP, LATE, LOST, MACHINES, STUCK, TURN, TWICE, beats, delay, grown, plain_size, sides)
from tests.tools import (NIL, ONE, SLOW, WILD, degree, is_plain_row, pair, plain, plain_product, plain_sum,
                         row)

SILENT, WHOLE = ((), row(1)), (row(1), row(1))
STEP, FADE, GROW = (row(1), KEEP), (row(1), SLOW), (row(2, 1), WILD)
ODD_ONE = (row(0, Fraction(1, 3), 5), row(1, 0, Fraction(-3, 2)))
LOOPS = [(machine, helm) for machine in MACHINES for helm in HELMS]
FEW = [(machine, helm) for machine in (CART, BACK, LATE, CALM, STUCK, HIDING[1], HIDING[6])
       for helm in HELMS[:9] + HELMS[10:]]
MANY = 14


def by_definition(machine, helm):
    """m b + n a."""
    return plain_sum(plain_product(machine[1], helm[1]), plain_product(machine[0], helm[0]))


def turned(value):
    """The row with each number's sign turned."""
    return row(*[-number for number in plain(value)])


def numbers(answer, many):
    return plain(first_numbers(answer, many))


def closing_helms(machine, rows):
    """Helms with which the closing row is (1): the least one, and others by the rows f."""
    a, b = least_helm(machine, row(1))
    helms = [(a, b)]
    for f in rows:
        less = turned(plain_product(machine[0], f))
        helms.append((plain_sum(a, plain_product(machine[1], f)), plain_sum(b, less)))
    return helms


def closes_within(machine, size):
    """Whether m b + n a = 1 for some rows of degrees up to the size, by elimination."""
    places = max(len(machine[0]), len(machine[1])) + size
    columns = []
    for value in machine:
        for k in range(size + 1):
            numbers = [Fraction(0)] * k + plain(value)
            columns.append(numbers + [Fraction(0)] * (places - len(numbers)))
    wanted = [Fraction(1)] + [Fraction(0)] * (places - 1)
    while columns:
        column = columns.pop()
        first = next((k for k in range(places) if column[k] != 0), None)
        if first is None:
            continue
        for other in columns + [wanted]:
            much = other[first] / column[first]
            for k in range(places):
                other[k] -= much * column[k]
    return not any(wanted)


class Closing(unittest.TestCase):

    def test_closing_rows(self):
        for machine, helm in LOOPS:
            with self.subTest(machine=machine, helm=helm):
                told = closing_row(machine, helm)
                self.assertEqual(told, by_definition(machine, helm))
                self.assertTrue(is_plain_row(told))
                self.assertEqual(told[0], ONE)
                self.assertEqual(closing_row(helm=helm, machine=machine), told)

    def test_steady_loops(self):
        found = 0
        for machine, helm in LOOPS:
            wanted = is_steady(by_definition(machine, helm))
            found += wanted
            with self.subTest(machine=machine, helm=helm):
                self.assertIs(is_steady_loop(machine, helm), wanted)
                self.assertIs(is_steady_loop(helm=helm, machine=machine), wanted)
                if machine in LOST:
                    self.assertIs(wanted, False)
        self.assertGreater(found, 20)

    def test_by_hand(self):
        self.assertEqual(closing_row(CART, HAND), row(1))
        self.assertEqual(closing_row(CART, IDLE), WILD)
        self.assertEqual(closing_row(BACK, (row(3), row(1, 1))), row(1, 3, -7))
        self.assertIs(is_steady_loop(CART, HAND), True)
        self.assertIs(is_steady_loop(CART, (row(1), row(1))), False)
        self.assertIs(is_steady_loop(CART, (row(3), row(1))), False)
        self.assertIs(is_steady_loop(CART, (row(Fraction(10 ** 30 - 1, 10 ** 30) + 2), row(1))), True)
        self.assertIs(is_steady_loop(CART, grown(HAND, SLOW)), True)
        # By the helm's own common divisor alone, a zero of the size 1.
        self.assertIs(is_steady_loop(CART, grown(HAND, row(1, 1))), False)
        self.assertIs(is_steady_loop(STUCK, HAND), False)


class Answers(unittest.TestCase):

    def test_four_answers(self):
        for machine, helm in LOOPS:
            with self.subTest(machine=machine, helm=helm):
                (n, m), (a, b) = machine, helm
                tops = (plain_product(n, a), plain_product(m, a), plain_product(n, b), turned(plain_product(n, a)))
                told = four_answers(machine, helm)
                self.assertIs(type(told), tuple)
                self.assertEqual(told, tuple(answer_of(top, by_definition(machine, helm)) for top in tops))
                self.assertEqual([is_answer(answer) for answer in told], [True] * 4)
                self.assertEqual(four_answers(helm=helm, machine=machine), told)

    def test_beat_by_beat(self):
        kick, still = [Fraction(1)] + [Fraction(0)] * (MANY - 1), [Fraction(0)] * MANY
        for machine, helm in FEW:
            with self.subTest(machine=machine, helm=helm):
                wanted = beats(machine, helm, kick, still, (), ()) + beats(machine, helm, still, kick, (), ())
                self.assertEqual([numbers(answer, MANY) for answer in four_answers(machine, helm)], list(wanted))

    def test_reduced(self):
        self.assertEqual(four_answers(CART, IDLE), (SILENT, SILENT, (row(0, 1), WILD), SILENT))
        self.assertEqual(four_answers(grown(CART, SLOW), grown(HAND, WILD)), four_answers(CART, HAND))
        self.assertEqual(four_answers(CART, HAND), ((row(0, 2), row(1)), (row(2, -4), row(1)), (row(0, 1), row(1)),
                                                    (row(0, -2), row(1))))


class Shown(unittest.TestCase):

    def check(self, machine, helm, goal, push, start, turn):
        told = shown(machine, helm, goal, push, start, turn)
        self.assertIs(type(told), tuple)
        self.assertEqual([is_answer(answer) for answer in told], [True, True])
        y, u = beats(machine, helm, numbers(goal, MANY), numbers(push, MANY), start, turn)
        self.assertEqual((numbers(told[0], MANY), numbers(told[1], MANY)), (y, u))
        self.assertEqual(shown(turn=turn, start=start, push=push, goal=goal, helm=helm, machine=machine), told)

    def test_each_alone(self):
        for machine, helm in FEW:
            with self.subTest(machine=machine, helm=helm):
                for answer in (WHOLE, STEP, FADE, GROW, ODD_ONE):
                    self.check(machine, helm, answer, SILENT, (), ())
                    self.check(machine, helm, SILENT, answer, (), ())
                for start in sides(plain_size(machine)):
                    self.check(machine, helm, SILENT, SILENT, start, ())
                for turn in sides(plain_size(helm)):
                    self.check(machine, helm, SILENT, SILENT, (), turn)

    def test_all_at_once(self):
        for machine, helm in FEW:
            start, turn = sides(plain_size(machine))[-1], sides(plain_size(helm))[-1]
            with self.subTest(machine=machine, helm=helm):
                for goal, push in ((STEP, FADE), (ODD_ONE, GROW), (FADE, FADE), (GROW, STEP), (WHOLE, ODD_ONE)):
                    self.check(machine, helm, goal, push, start, turn)
                    self.check(machine, helm, goal, push, start, ())
                    self.check(machine, helm, goal, push, (), turn)
                    self.check(machine, helm, goal, push, (), ())

    def test_great_numbers(self):
        for machine in MACHINES[10:11] + MACHINES[-6:-4]:
            helm = HELMS[9]
            with self.subTest(machine=machine):
                self.check(machine, helm, ODD_ONE, (row(10 ** 50), row(1, -10 ** 20)), row(Fraction(1, 10 ** 40)),
                           row(10 ** 30))

    def test_by_hand(self):
        self.assertEqual(shown(CART, HAND, STEP, SILENT, (), ()), ((row(0, 2), KEEP), (row(2, -4), KEEP)))
        self.assertEqual(shown(CART, HAND, SILENT, STEP, (), ()), ((row(0, 1), KEEP), (row(0, -2), KEEP)))
        self.assertEqual(shown(CART, HAND, SILENT, SILENT, row(3), ()), ((row(3), row(1)), (row(-6), row(1))))
        self.assertEqual(shown(CART, IDLE, GROW, SILENT, row(1), ()), ((row(1), WILD), SILENT))
        self.assertEqual(shown(CART, grown(IDLE, SLOW), STEP, SILENT, (), row(1)),
                         (answer_of(row(0, 1), plain_product(WILD, SLOW)), FADE))
        self.assertEqual(shown(CART, HAND, SILENT, SILENT, (), ()), (SILENT, SILENT))


class Running(unittest.TestCase):

    def check(self, machine, helm):
        told = running_start(machine, helm)
        self.assertEqual(running_start(helm=helm, machine=machine), told)
        if is_steady(by_definition(machine, helm)):
            self.assertIsNone(told)
            return
        self.assertIs(type(told), tuple)
        start, turn = told
        self.assertTrue(is_plain_row(start) and is_plain_row(turn))
        self.assertLess(degree(start), plain_size(machine))
        self.assertLess(degree(turn), plain_size(helm))
        left = shown(machine, helm, SILENT, SILENT, start, turn)
        self.assertNotEqual([dies_out(answer) for answer in left], [True, True])

    def test_all_loops(self):
        for machine, helm in LOOPS:
            with self.subTest(machine=machine, helm=helm):
                self.check(machine, helm)

    def test_by_hidden_parts_alone(self):
        for core in (CART, BACK, LATE, TWICE):
            for helm in closing_helms(core, [row(1), row(0, 2)]):
                for part in (WILD, KEEP, row(1, 1), TURN, plain_product(SLOW, TURN), row(1, -2, 1)):
                    with self.subTest(core=core, helm=helm, part=part):
                        self.check(grown(core, part), helm)
                        self.check(core, grown(helm, part))
                        self.check(grown(core, part), grown(helm, part))
                        self.check(grown(core, part), grown(helm, KEEP))
                        self.check(grown(core, SLOW), grown(helm, part))

    def test_zeros_of_the_size_1(self):
        for core in (CART, BACK, LATE, grown(CART, SLOW)):
            for wished in (KEEP, row(1, 1), TURN, row(1, 1, 1), plain_product(SLOW, KEEP)):
                helm = least_helm(core, plain_product(wished, SLOW))
                with self.subTest(core=core, wished=wished):
                    self.check(core, helm)

    def test_numbers_that_do_not_come_to_nought(self):
        # By beats: behind 60 of them they are no smaller than 1.
        for machine, helm in ((CART, IDLE), (STUCK, HAND), (CART, grown(HAND, KEEP)), (BACK, IDLE),
                              (CART, (row(1), row(1)))):
            start, turn = running_start(machine, helm)
            still = [Fraction(0)] * 60
            y, u = beats(machine, helm, still, still, start, turn)
            with self.subTest(machine=machine, helm=helm):
                self.assertGreaterEqual(max(abs(number) for number in y[40:] + u[40:]), 1)


class Over(unittest.TestCase):

    def least_beat(self, machine, helm, many):
        """The least beat from which on all is 0, by beats, None if some number of the last ones is not."""
        still, last = [Fraction(0)] * many, 0
        pairs = [(start, ()) for start in sides(plain_size(machine))]
        pairs += [((), turn) for turn in sides(plain_size(helm))]
        for start, turn in pairs:
            y, u = beats(machine, helm, still, still, start, turn)
            last = max([last] + [k + 1 for k in range(many) if y[k] != 0 or u[k] != 0])
        return None if last > many - 8 else last

    def test_last_beats(self):
        for machine in CORES:
            for helm in closing_helms(machine, [row(1), row(-2), row(0, 0, 3), row(1, Fraction(1, 2), 7)]):
                with self.subTest(machine=machine, helm=helm):
                    told = last_beat(machine, helm)
                    self.assertEqual(told, plain_size(machine) + plain_size(helm))
                    self.assertEqual(told, self.least_beat(machine, helm, told + 10))
                    self.assertEqual(last_beat(helm=helm, machine=machine), told)

    def test_never_over(self):
        for machine, helm in LOOPS:
            if by_definition(machine, helm) != row(1):
                with self.subTest(machine=machine, helm=helm):
                    self.assertIsNone(last_beat(machine, helm))
        for machine, helm in ((CART, IDLE), (CART, grown(HAND, SLOW)), (grown(CART, SLOW), HAND), (BACK, HAND)):
            self.assertIsNone(last_beat(machine, helm))
            self.assertIsNone(self.least_beat(machine, helm, 40))

    def test_last_beats_by_hand(self):
        self.assertEqual(last_beat(CART, HAND), 1)
        self.assertEqual(last_beat(BACK, (row(-1), row(1, 2))), 3)
        self.assertEqual(last_beat(CALM, IDLE), 2)
        self.assertEqual(last_beat(CART, (row(3, -2), KEEP)), 2)

    def test_fewest_beats(self):
        for machine in CORES:
            helms = closing_helms(machine, [delay(k) for k in range(4)] + [row(1, 1), row(-3, 0, 2)])
            with self.subTest(machine=machine):
                told = fewest_beats(machine)
                self.assertEqual(told, self.least_beat(machine, helms[0], told + 12))
                self.assertEqual(told, size_of(machine) + helm_size(helms[0]))
                self.assertEqual(fewest_beats(machine=machine), told)
                for helm in helms[1:]:
                    self.assertGreater(last_beat(machine, helm), told)

    def test_none_is_over_sooner(self):
        # By the equations for the numbers of a helm: without an answer for each lesser size.
        for machine in CORES:
            room = fewest_beats(machine) - plain_size(machine)
            with self.subTest(machine=machine):
                self.assertIs(closes_within(machine, room), True)
                for size in range(room):
                    self.assertIs(closes_within(machine, size), False)

    def test_machines_that_are_never_over(self):
        for machine in HIDING + LOST:
            with self.subTest(machine=machine):
                self.assertIsNone(fewest_beats(machine))

    def test_fewest_beats_by_hand(self):
        self.assertEqual([fewest_beats(machine) for machine in (CART, BACK, CALM, STUCK, grown(CART, SLOW))],
                         [1, 3, 2, None, None])
        self.assertEqual(fewest_beats((row(0, 1), row(1))), 1)
        self.assertEqual(fewest_beats((row(0, 0, 0, 1), row(1))), 3)
        self.assertEqual(fewest_beats((row(0, 1), row(1, 0, 0, 1))), 5)
        self.assertIs(type(fewest_beats(CART)), int)


class Together(unittest.TestCase):

    def test_shown_goes_straight_with_all(self):
        # The four answers times goal and push are what is shown and told without starts.
        for machine, helm in FEW[::3]:
            goal_y, goal_u, push_y, push_u = four_answers(machine, helm)
            with self.subTest(machine=machine, helm=helm):
                self.assertEqual(shown(machine, helm, FADE, SILENT, (), ()),
                                 (answer_product(goal_y, FADE), answer_product(goal_u, FADE)))
                self.assertEqual(shown(machine, helm, SILENT, GROW, (), ()),
                                 (answer_product(push_y, GROW), answer_product(push_u, GROW)))

    def test_nothing_at_the_first_beat(self):
        for machine, helm in FEW:
            self.assertEqual(first_numbers(shown(machine, helm, STEP, STEP, (), ())[0], 1), (NIL,))
            self.assertEqual(first_numbers(shown(machine, helm, STEP, STEP, row(7), ())[0], 1), (pair(7),))


if __name__ == "__main__":
    unittest.main()

"""The worst of an answer: bounds as near as asked for, and rows that show them."""

import unittest
from fractions import Fraction
from math import lcm

from allhelms.answers import answer_of, dies_out
from allhelms.rows import is_row
from allhelms.steady import row_of
from allhelms.worst import is_bound, worst_near, worst_row
from tests.tools import (HALF, LESS, NIL, NO_ROWS, NO_TUPLES, ONE, SLOW, SPRING, TWO, WILD, is_plain_row, pair, plain,
                         plain_product, row, some_rows)

VAST = 10 ** 40


def geometric(part, top=1):
    """The answer top / (1 - part d), whose worst is |top| / (1 - |part|)."""
    return (row(top), row(1, -Fraction(part)))


def power(value, many):
    """A row to a power."""
    told = row(1)
    for _ in range(many):
        told = plain_product(told, value)
    return told


# Answers with their worst, known by hand: all numbers of one sign, or each other one, or few.
KNOWN = [(geometric(part), 1 / (1 - abs(part))) for part in (
    Fraction(1, 2), Fraction(-1, 2), Fraction(1, 10 ** 30), Fraction(-99, 100), Fraction(999, 1000), Fraction(9, 10))]
KNOWN += [(geometric(Fraction(3, 4), top), 4 * abs(top)) for top in (-VAST, Fraction(1, VAST), 7)]
KNOWN += [((row(1), power(row(1, Fraction(-19, 20)), 3)), Fraction(8000)),
          ((row(1), power(row(1, Fraction(9, 10)), 2)), Fraction(100)),
          ((row(1), row(1, 0, 0, Fraction(-1, 2))), Fraction(2)),
          ((row(0, 0, -5), row(1, 0, Fraction(2, 3))), Fraction(15)),
          # 1, 1 / 2 - 2, 1 / 4 - 1, ..: all but the first one below 0.
          ((row(1, -2), SLOW), Fraction(4)),
          # 1 - d d over 1 - d / 2: 1, 1 / 2, then - 3 / 4, - 3 / 8, ..
          ((row(1, 0, -1), SLOW), Fraction(3)),
          ((row(0, 2, -3), row(1)), Fraction(5)), (((), row(1)), Fraction(0)), ((row(-7), row(1)), Fraction(7)),
          ((row(Fraction(1, VAST), 0, -VAST), row(1)), VAST + Fraction(1, VAST))]
OTHERS = [answer_of(top, under) for top in some_rows(3, 5) for under in (
    SPRING, plain_product(SLOW, SPRING), row(1, Fraction(-1, VAST), Fraction(1, 3)),
    row_of(((-1, 2), (2, 5), (1, 2))), row_of(((9, 10), (-9, 10))), row_of(((1, VAST), (-7, 8))))]
ANSWERS = [answer for answer, _ in KNOWN] + OTHERS
MANY = (1, 2, 1000, 10 ** 6)


def sums_of(answer, value):
    """(s, f) of a row, by the definition."""
    unit = lcm(*[under for _, under in answer[0] + answer[1] + value])
    top, under, numbers = [[n * (unit // m) for n, m in part] for part in (answer[0], answer[1], value)]
    whole = [[sum(part[i] * numbers[k - i] for i in range(len(part)) if 0 <= k - i < len(numbers))
              for k in range(len(part) + len(numbers))] for part in (top, under)]
    whole[1][0] -= unit * unit
    return [Fraction(sum(abs(number) for number in part), unit * unit) for part in whole]


def bounds(sums, low, high):
    """Whether a row with these sums bounds the worst from low to high, by the definition."""
    s, f = sums
    return f < 1 and low * (1 + f) <= s and high * (1 - f) >= s


def beats_of(answer, many):
    """The first numbers of an answer, by the definition."""
    top, under = plain(answer[0]), plain(answer[1])
    told = []
    for k in range(many):
        told.append((top[k] if k < len(top) else 0) - sum(under[i] * told[k - i] for i in range(1,
                                                                                                min(k + 1,
                                                                                                    len(under)))))
    return told


class Near(unittest.TestCase):

    def test_known_ones(self):
        for answer, worst in KNOWN:
            for many in MANY:
                with self.subTest(answer=answer, many=many):
                    low, high = worst_near(answer, many)
                    self.assertEqual(worst_near(many=many, answer=answer), (low, high))
                    self.assertLessEqual(Fraction(*low), worst)
                    self.assertLessEqual(worst, Fraction(*high))
                    self.assertLessEqual((Fraction(*high) - Fraction(*low)) * many, 1)
                    if answer[1] == row(1):
                        self.assertEqual((low, high), (pair(worst), pair(worst)))

    def test_sums_of_first_sizes(self):
        for answer in OTHERS:
            told = sum(abs(number) for number in beats_of(answer, 200))
            for many in MANY:
                low, high = worst_near(answer, many)
                self.assertEqual([pair(Fraction(*low)), pair(Fraction(*high))], [low, high])
                self.assertLessEqual(told, Fraction(*high))
                self.assertLessEqual((Fraction(*high) - Fraction(*low)) * many, 1)
            # What comes behind so many is little here.
            self.assertLessEqual(Fraction(*low), told + Fraction(1, 100))

    def test_rows_bound_to_just_the_pair(self):
        for answer in ANSWERS:
            for many in (1, 100):
                with self.subTest(answer=answer, many=many):
                    low, high = worst_near(answer, many)
                    value = worst_row(answer, many)
                    self.assertEqual(worst_row(many=many, answer=answer), value)
                    self.assertTrue(is_row(value))
                    self.assertTrue(is_plain_row(value))
                    self.assertTrue(bounds(sums_of(answer, value), Fraction(*low), Fraction(*high)))
                    self.assertIs(is_bound(answer, low, high, value), True)

    def test_rows_far_from_short(self):
        for answer in (geometric(Fraction(99, 100)), geometric(Fraction(-999, 1000), VAST)):
            low, high = worst_near(answer, 10 ** 6)
            value = worst_row(answer, 10 ** 6)
            self.assertGreater(len(value), 1000)
            self.assertIs(is_bound(answer, low, high, value), True)

    def test_bounded_goals(self):
        # No goal from - 1 to 1 leads beyond, and one comes near.
        for answer in OTHERS[::3]:
            numbers = beats_of(answer, 150)
            low, high = worst_near(answer, 100)
            goal = [(number > 0) - (number < 0) for number in reversed(numbers)]
            shows = sum(number * g for number, g in zip(numbers, reversed(goal)))
            self.assertLessEqual(shows, Fraction(*high))
            self.assertGreaterEqual(shows, Fraction(*low) * Fraction(9, 10))


class Bound(unittest.TestCase):

    def test_just_at_the_ends(self):
        tiny = Fraction(1, 10 ** 40)
        for answer in ANSWERS:
            for value in (row(1), answer[0], row(1, Fraction(1, 2)), worst_row(answer, 1),
                          row(*beats_of((row(1), answer[1]), 4))):
                s, f = sums_of(answer, value)
                far = f >= 1
                low, high = s / (1 + f), VAST if far else s / (1 - f)
                cases = [(low, high), (low + tiny, high), (low, high - tiny), (low - 1, high + 1), (high, low)]
                for first, last in cases:
                    with self.subTest(answer=answer, value=value, low=first, high=last):
                        wanted = bounds((s, f), first, last)
                        self.assertIs(is_bound(answer, pair(first), pair(last), value), wanted)
                if len(value) < 100:
                    told = is_bound(value=value, high=pair(high), low=pair(low), answer=answer)
                    self.assertIs(told, not far)
                self.assertIs(is_bound(answer, pair(low), pair(high), value), not far)

    def test_f_just_below_1_and_1(self):
        fade = (row(1), SLOW)
        # UNDER times (1, x) is 1 + (x - 1 / 2) d - x / 2 d d.
        for x in (1, Fraction(-1, 3)):
            f = abs(x - Fraction(1, 2)) + abs(x) / 2
            self.assertEqual(f, 1)
            self.assertIs(is_bound(fade, (-9, 1), (VAST, 1), row(1, x)), False)
            near = x * (1 - Fraction(1, 10 ** 30))
            s, f = sums_of(fade, row(1, near))
            self.assertLess(f, 1)
            self.assertGreater(f, Fraction(9, 10))
            self.assertIs(is_bound(fade, pair(s / (1 + f)), pair(s / (1 - f)), row(1, near)), True)
        # () leaves 1 of 1.
        self.assertIs(is_bound(fade, (-9, 1), (9, 1), ()), False)
        self.assertIs(is_bound(((), row(1)), NIL, NIL, ()), False)
        self.assertIs(is_bound(((), row(1)), NIL, NIL, row(1)), True)

    def test_no_rows_and_no_steady_answers(self):
        for value in NO_ROWS + NO_TUPLES:
            if type(value) is tuple and value == ():
                continue
            self.assertIs(is_bound((row(1), SLOW), (-9, 1), (9, 1), value), False)
        for under in (WILD, row(1, -1), row(1, 1), row(1, 0, 1), plain_product(SLOW, WILD)):
            answer = (row(1), under)
            self.assertIs(dies_out(answer), False)
            for value in (row(1), (), under, row(1, 2), row(1, 1, 1, 1), row(Fraction(1, VAST))):
                self.assertIs(is_bound(answer, (-9, 1), (10 ** 60, 1), value), False)

    def test_by_hand(self):
        fade = (row(1), SLOW)
        self.assertIs(is_bound(fade, (6, 5), TWO, (ONE, HALF)), True)
        self.assertIs(is_bound(fade, (6, 5), (2 * VAST - 1, VAST), (ONE, HALF)), False)
        self.assertIs(is_bound(fade, (6 * VAST + 1, 5 * VAST), TWO, (ONE, HALF)), False)
        # A row that tells the other sign does as well: (- 1 + d / 2) (- 1) = 1 - d / 2.
        self.assertIs(is_bound(fade, LESS, (9, 1), row(-1)), False)
        self.assertIs(is_bound((row(1), row(1)), ONE, ONE, row(1)), True)
        self.assertIs(is_bound((row(1), row(1)), (1, 3), ONE, row(Fraction(1, 2))), True)
        self.assertIs(is_bound((row(1), row(1)), (2, 5), ONE, row(Fraction(1, 2))), False)


if __name__ == "__main__":
    unittest.main()

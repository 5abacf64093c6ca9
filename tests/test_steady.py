"""Steady rows: by their zeros, by their bends, and how quick they are."""

import random
import unittest
from fractions import Fraction

from allhelms.errors import InvalidBends, InvalidFraction, InvalidRow
from allhelms.steady import bends_of, is_quick, is_steady, row_of
from tests.checks import ErrorCase
from tests.tools import (NO_FRACTIONS, NO_ROWS, NO_TUPLES, ONE, SLOW, SPRING, WILD, is_plain_row, pair,
                         plain, plain_product, row)


def with_zero(at):
    """A row that is 0 at just this number, other than 0."""
    return row(1, -1 / Fraction(at))


# Their zeros are not real: two of one size, whose square is the first number over the last one.
FAR_PAIRS = [SPRING, row(1, 0, Fraction(1, 2)), row(9, 2, 8), row(3, 2, 2), row(-3, -2, -2), row(101, 20, 100)]
ROUND_PAIRS = [row(1, 0, 1), row(1, 1, 1), row(-1, 1, -1), row(5, 6, 5), row(1, Fraction(-1, 2), 1)]
NEAR_PAIRS = [row(1, 0, 2), row(2, 2, 3), row(8, 2, 9), row(100, 20, 101), row(1, 1, 4)]
FAR = [with_zero(at) for at in (2, -2, Fraction(3, 2), Fraction(-101, 100), 10 ** 30, 1 + Fraction(1, 10 ** 30))]
ROUND = [with_zero(1), with_zero(-1)]
NEAR = [with_zero(at) for at in (Fraction(1, 2), Fraction(-99, 100), Fraction(1, 10 ** 30),
                                 1 - Fraction(1, 10 ** 30))] + [row(0, 1)]
GOOD = FAR + FAR_PAIRS
BAD = ROUND + ROUND_PAIRS + NEAR + NEAR_PAIRS


def products_of(rows, many, seed):
    """Some products of so many of the rows, the same ones for the same seed."""
    source = random.Random(seed)
    found = []
    for _ in range(30):
        value = row(Fraction(source.choice((-7, -1, 1, 5)), source.choice((1, 3))))
        for _ in range(many):
            value = plain_product(value, source.choice(rows))
        found.append(value)
    return found


def bends_by_definition(value):
    """The bends of a steady row, as the text tells them, one next row after the other."""
    numbers = plain(value)
    numbers = [number / numbers[0] for number in numbers]
    bends = []
    while len(numbers) > 1:
        bend, last = numbers[-1], len(numbers) - 1
        bends.append(pair(bend))
        numbers = [(numbers[i] - bend * numbers[last - i]) / (1 - bend * bend) for i in range(last)]
    return tuple(bends)


class Steady(unittest.TestCase):

    def check(self, value, wanted):
        with self.subTest(value=value):
            self.assertIs(is_steady(value), wanted)
            self.assertIs(is_steady(row=value), wanted)
            self.assertIs(is_quick(value, ONE), wanted)
            bends = bends_of(value)
            self.assertEqual(bends, bends_of(row=value))
            if not wanted:
                self.assertIsNone(bends)
            else:
                self.assertEqual(bends, bends_by_definition(value))
                self.assertTrue(all(abs(number) < 1 for number in plain(bends)))
                self.assertEqual(len(bends), len(value) - 1)
                first = plain(value)[0]
                led = row(*[number / first for number in plain(value)])
                self.assertEqual(row_of(bends), led)

    def test_one_number(self):
        for number in (1, -1, Fraction(2, 3), 10 ** 40):
            self.check(row(number), True)
            self.assertEqual(bends_of(row(number)), ())

    def test_alone(self):
        for value in GOOD:
            self.check(value, True)
        for value in BAD:
            self.check(value, False)

    def test_products_of_steady_ones(self):
        for many in (2, 3, 5):
            for value in products_of(GOOD, many, many):
                self.check(value, True)

    def test_products_with_one_that_is_not(self):
        for many in (1, 3):
            for at, value in enumerate(products_of(GOOD, many, many)):
                self.check(plain_product(value, BAD[at % len(BAD)]), False)

    def test_first_number_nought(self):
        for value in (row(0, 1), row(0, 5, 1), row(0, 0, 0, -2), row(0, 1, Fraction(1, 2))):
            self.check(value, False)

    def test_noughts_in_the_middle(self):
        self.check(row(1, 0, 0, 0, Fraction(1, 2)), True)
        self.assertEqual(bends_of(row(2, 0, 0, 1)), ((1, 2), (0, 1), (0, 1)))
        self.check(row(1, 0, 0, 0, 1), False)
        self.check(row(1, 0, 0, 0, -2), False)

    def test_just_at_the_size_of_one_behind(self):
        # The first bend is below 1, a later one is 1.
        self.check(row(1, Fraction(3, 2), Fraction(1, 2)), False)
        self.check(row(1, Fraction(-3, 2), Fraction(1, 2)), False)
        self.check(row(1, Fraction(149, 100), Fraction(1, 2)), True)
        self.check(row(1, Fraction(151, 100), Fraction(1, 2)), False)

    def test_by_hand(self):
        self.assertEqual(bends_of(row(4, 2, 1)), ((1, 4), (2, 5)))
        self.assertEqual(bends_of(row(-2, 1)), ((-1, 2),))
        self.assertEqual(bends_of(SLOW), ((-1, 2),))


class RowOf(unittest.TestCase):

    def test_there_and_back(self):
        source = random.Random(5)
        for _ in range(60):
            bends = [Fraction(source.randint(-9, 9), 10) for _ in range(source.randint(1, 6))]
            if bends[0] == 0:
                bends[0] = Fraction(-9, 10)
            told = tuple(pair(bend) for bend in bends)
            with self.subTest(told=told):
                value = row_of(told)
                self.assertTrue(is_plain_row(value))
                self.assertEqual(value[0], ONE)
                self.assertEqual(len(value), len(told) + 1)
                self.assertEqual(row_of(bends=told), value)
                self.assertIs(is_steady(value), True)
                self.assertEqual(bends_of(value), told)

    def test_by_hand(self):
        self.assertEqual(row_of(()), (ONE,))
        self.assertEqual(row_of(((-1, 2),)), SLOW)
        self.assertEqual(row_of(((1, 4), (2, 5))), SPRING)
        self.assertEqual(row_of(((1, 2), (0, 1), (0, 1))), row(1, 0, 0, Fraction(1, 2)))
        self.assertEqual(row_of(((10 ** 30 - 1, 10 ** 30),)), (ONE, (10 ** 30 - 1, 10 ** 30)))


class Quick(unittest.TestCase):

    def test_at_below_and_above(self):
        # One over the size of the zero is told beside each row.
        cases = [(SLOW, Fraction(1, 2)), (SPRING, Fraction(1, 2)), (row(9, 0, 4), Fraction(2, 3)),
                 (with_zero(Fraction(-4, 3)), Fraction(3, 4)), (row(25, 6, 9), Fraction(3, 5)),
                 (plain_product(SLOW, with_zero(5)), Fraction(1, 2)), (row(-8, 0, 0, 1), Fraction(1, 2))]
        little = Fraction(1, 10 ** 20)
        for value, at in cases:
            with self.subTest(value=value):
                self.assertIs(is_quick(value, pair(at)), False)
                self.assertIs(is_quick(value, pair(at - little)), False)
                self.assertIs(is_quick(value, pair(at + little)), True)
                self.assertIs(is_quick(value, pair(at / 2)), False)
                self.assertIs(is_quick(fraction=pair(at + little), row=value), True)
                self.assertIs(is_quick(value, ONE), True)

    def test_rows_that_are_never_quick(self):
        for value in BAD:
            for at in (1, Fraction(1, 2), Fraction(9, 10)):
                with self.subTest(value=value, at=at):
                    self.assertIs(is_quick(value, pair(at)), False)

    def test_one_number_is_always_quick(self):
        for at in (1, Fraction(1, 2), Fraction(1, 10 ** 40)):
            self.assertIs(is_quick(row(-3), pair(at)), True)


class Errors(ErrorCase):

    def test_rows_that_are_none(self):
        for at, value in enumerate(NO_ROWS + [()]):
            with self.subTest(at=at):
                self.fails_given(InvalidRow, value, is_steady, value)
                self.fails_given(InvalidRow, value, is_steady, row=value)
                self.fails_given(InvalidRow, value, bends_of, value)
                self.fails_given(InvalidRow, value, bends_of, row=value)
                self.fails_given(InvalidRow, value, is_quick, value, ONE)
                self.fails_given(InvalidRow, value, is_quick, fraction=ONE, row=value)
                self.fails_given(InvalidRow, value, is_quick, value, (2, 4))

    def test_fractions_out_of_bounds(self):
        out = [(0, 1), (-1, 2), (-1, 1), (2, 1), (11, 10), (10 ** 30 + 1, 10 ** 30), (-1, 10 ** 30)]
        for at, value in enumerate(NO_FRACTIONS + out):
            with self.subTest(at=at):
                self.fails_given(InvalidFraction, value, is_quick, SLOW, value)
                self.fails_given(InvalidFraction, value, is_quick, fraction=value, row=WILD)

    def test_bends_that_are_none(self):
        for at, value in enumerate(NO_TUPLES):
            with self.subTest(at=at):
                self.fails(InvalidBends, "index", None, row_of, value)
                self.fails(InvalidBends, "index", None, row_of, bends=value)

    def test_the_first_wrong_bend(self):
        out = [(1, 1), (-1, 1), (2, 1), (-3, 2), (10 ** 30 + 1, 10 ** 30)]
        for at, value in enumerate(NO_FRACTIONS + out):
            with self.subTest(at=at):
                self.fails(InvalidBends, "index", 0, row_of, (value,))
                self.fails(InvalidBends, "index", 0, row_of, (value, (1, 2), 7))
                self.fails(InvalidBends, "index", 1, row_of, ((1, 2), value))
                self.fails(InvalidBends, "index", 2, row_of, bends=((1, 2), (0, 1), value, value))

    def test_the_first_bend_is_not_nought(self):
        self.fails(InvalidBends, "index", 0, row_of, ((0, 1),))
        self.fails(InvalidBends, "index", 0, row_of, ((0, 1), (1, 2)))
        self.fails(InvalidBends, "index", 0, row_of, ((0, 1), (1, 1)))
        self.assertEqual(row_of(((1, 2), (0, 1))), row(1, 0, Fraction(1, 2)))


if __name__ == "__main__":
    unittest.main()

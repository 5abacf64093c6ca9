"""Rows: what one is, their arithmetic, and their errors."""

import unittest
from fractions import Fraction
from itertools import product

from allhelms.errors import InvalidFraction, InvalidRow
from allhelms.rows import (cofactors, common_divisor, divides, is_row, parted, row_less, row_product,
                           row_sum, value_at)
from tests.checks import ErrorCase
from tests.tools import (NIL, NO_FRACTIONS, NO_ROWS, ONE, SLOW, SPRING, WILD, degree, is_plain_row,
                         led_by_first, pair, plain, plain_product, plain_sum, plain_worth, row, some_rows)

# Noughts ahead, in the middle, alone; numbers alone; rows with common divisors; the nought row.
ROWS = [(), row(1), row(-3), row(Fraction(2, 7)), row(0, 1), row(0, 0, Fraction(-5, 3)), row(1, 0, 0, 1),
        row(0, 1, 0, -4), SLOW, WILD, SPRING, plain_product(SLOW, WILD), plain_product(WILD, SPRING),
        row(2, -1), row(1, -1), row(1, 1), row(1, 0, -1), row(1, -2, 1), row(10 ** 30, 1, -10 ** 25),
        row(Fraction(1, 10 ** 30), Fraction(10 ** 40, 3), 7)] + some_rows(1, 12)


def pairs():
    """All pairs of ordinary rows, in both orders, each row with itself, too."""
    return [(one, other) for one in ROWS for other in ROWS]


class Kinds(unittest.TestCase):

    def test_rows(self):
        for value in ROWS:
            with self.subTest(value=value):
                self.assertIs(is_row(value), True)
                self.assertIs(is_row(value=value), True)

    def test_no_rows(self):
        for at, value in enumerate(NO_ROWS):
            with self.subTest(at=at):
                self.assertIs(is_row(value), False)

    def test_no_fractions_make_no_rows(self):
        for at, value in enumerate(NO_FRACTIONS):
            with self.subTest(at=at):
                self.assertIs(is_row((value,)), False)
                self.assertIs(is_row((value, ONE)), False)
                self.assertIs(is_row((ONE, value)), False)


class Arithmetic(unittest.TestCase):

    def same(self, value, wanted):
        """Equal, and a row made of numbers and tuples alone."""
        self.assertEqual(value, wanted)
        self.assertTrue(is_plain_row(value), value)

    def test_sums_and_differences(self):
        for one, other in pairs():
            with self.subTest(one=one, other=other):
                self.same(row_sum(one, other), plain_sum(one, other))
                self.same(row_sum(row=one, other=other), plain_sum(one, other))
                turned = row(*[-number for number in plain(other)])
                self.same(row_less(one, other), plain_sum(one, turned))
                self.same(row_less(other=other, row=one), plain_sum(one, turned))

    def test_ends_that_vanish(self):
        self.assertEqual(row_sum(row(1, 2, 3), row(0, -2, -3)), row(1))
        self.assertEqual(row_less(row(1, 2, 3), row(0, 2, 3)), row(1))
        self.assertEqual(row_sum(SLOW, row(-1, Fraction(1, 2))), ())
        self.assertEqual(row_less((), SLOW), row(-1, Fraction(1, 2)))

    def test_products(self):
        for one, other in pairs():
            with self.subTest(one=one, other=other):
                self.same(row_product(one, other), plain_product(one, other))
                self.same(row_product(other=one, row=other), plain_product(one, other))

    def test_worths(self):
        for one in ROWS:
            for at in (0, 1, -1, Fraction(1, 2), Fraction(-7, 3), 10 ** 20, Fraction(1, 10 ** 25)):
                with self.subTest(one=one, at=at):
                    self.assertEqual(value_at(one, pair(at)), pair(plain_worth(one, at)))
                    self.assertEqual(value_at(fraction=pair(at), row=one), pair(plain_worth(one, at)))
        self.assertEqual(value_at((), (7, 3)), NIL)
        self.assertEqual(value_at(row(5, 1), NIL), (5, 1))

    def test_quotients_and_rests(self):
        for one, other in pairs():
            if other == ():
                continue
            with self.subTest(one=one, other=other):
                quotient, rest = parted(one, other)
                self.assertTrue(is_plain_row(quotient) and is_plain_row(rest))
                self.assertLess(degree(rest), max(degree(other), 0))
                self.assertEqual(plain_sum(plain_product(quotient, other), rest), one)
                self.assertEqual(parted(other=other, row=one), (quotient, rest))

    def test_quotients_by_hand(self):
        self.assertEqual(parted((), SLOW), ((), ()))
        self.assertEqual(parted(SLOW, SLOW), (row(1), ()))
        self.assertEqual(parted(SLOW, SPRING), ((), SLOW))
        self.assertEqual(parted(SPRING, row(2)), (row(Fraction(1, 2), Fraction(1, 4), Fraction(1, 8)), ()))
        self.assertEqual(parted(row(1, 0, 0, 0, 1), row(0, 0, 2)), (row(0, 0, Fraction(1, 2)), row(1)))
        self.assertEqual(parted(row(3, 0, 0, 1), row(1, -1)), (row(-1, -1, -1), row(4)))

    def test_divides(self):
        for one, other in pairs():
            if one == ():
                continue
            with self.subTest(one=one, other=other):
                wanted = parted(other, one)[1] == ()
                self.assertIs(divides(one, other), wanted)
                self.assertIs(divides(other=other, row=one), wanted)
                self.assertIs(divides(one, plain_product(one, other)), True)
                if degree(one) > 0:
                    self.assertIs(divides(one, plain_sum(plain_product(one, other), row(1))), False)
        self.assertIs(divides(SLOW, ()), True)
        self.assertIs(divides(row(7), SPRING), True)
        self.assertIs(divides(SPRING, row(7)), False)
        self.assertIs(divides(SLOW, WILD), False)

    def test_arguments_stay(self):
        one, other = row(1, 2, 3), row(4, 5)
        for call in (row_sum, row_less, row_product, parted, divides, common_divisor, cofactors):
            self.assertEqual(call(one, other), call(one, other))
        self.assertEqual((one, other), (row(1, 2, 3), row(4, 5)))


class Divisors(unittest.TestCase):

    def check(self, one, other):
        """By their definition: a divisor of both that is a sum of their multiples is the greatest."""
        part = common_divisor(one, other)
        self.assertTrue(is_plain_row(part))
        self.assertEqual(part, led_by_first(part))
        self.assertTrue(divides(part, one) and divides(part, other))
        self.assertEqual(common_divisor(other, one), part)
        self.assertEqual(common_divisor(other=other, row=one), part)
        left, right = cofactors(one, other)
        self.assertTrue(is_plain_row(left) and is_plain_row(right))
        self.assertEqual(cofactors(other=other, row=one), (left, right))
        self.assertEqual(plain_sum(plain_product(left, one), plain_product(right, other)), part)
        if other == ():
            self.assertEqual((len(left), right), (1, ()))
        elif degree(other) == degree(part):
            self.assertEqual(left, ())
            self.assertEqual(len(right), 1)
        else:
            self.assertLess(degree(left), degree(other) - degree(part))

    def test_ordinary(self):
        for one, other in pairs():
            if one == () and other == ():
                continue
            with self.subTest(one=one, other=other):
                self.check(one, other)

    def test_with_common_parts(self):
        parts = [value for value in some_rows(2, 14, most=4) if value != ()]
        for one, other, part in zip(parts, parts[1:], parts[2:]):
            with self.subTest(one=one, other=other, part=part):
                ours, theirs = plain_product(one, part), plain_product(other, part)
                self.check(ours, theirs)
                self.assertTrue(divides(part, common_divisor(ours, theirs)))

    def test_by_hand(self):
        both = plain_product(SLOW, SPRING)
        self.assertEqual(common_divisor(plain_product(both, WILD), plain_product(both, row(3, 0, 1))), both)
        self.assertEqual(common_divisor(row(0, 0, 3), row(0, 5, 1)), row(0, 1))
        self.assertEqual(common_divisor(row(0, 0, 3), row(0, 0, 0, -5)), row(0, 0, 1))
        self.assertEqual(common_divisor(row(4), row(6)), row(1))
        self.assertEqual(common_divisor(row(-4, 2), ()), SLOW)
        self.assertEqual(common_divisor((), row(0, -4, 2)), row(0, 1, Fraction(-1, 2)))
        self.assertEqual(common_divisor(SLOW, WILD), row(1))
        self.assertEqual(common_divisor(row(1, -2, 1), row(1, 0, -1)), row(1, -1))

    def test_cofactors_at_the_edges(self):
        # The other over the common divisor has the degree 0.
        self.assertEqual(cofactors(SLOW, SLOW), ((), row(1)))
        self.assertEqual(cofactors(plain_product(SLOW, WILD), row(4, -2)), ((), row(Fraction(1, 4))))
        self.assertEqual(cofactors(row(5), row(3)), ((), row(Fraction(1, 3))))
        self.assertEqual(cofactors(SPRING, row(-2)), ((), row(Fraction(-1, 2))))
        self.assertEqual(cofactors((), row(0, -4, 2)), ((), row(Fraction(-1, 4))))
        self.assertEqual(cofactors((), row(7)), ((), row(Fraction(1, 7))))
        # The other one is ().
        self.assertEqual(cofactors(row(0, -4, 2), ()), (row(Fraction(-1, 4)), ()))
        self.assertEqual(cofactors(row(7), ()), (row(Fraction(1, 7)), ()))
        # The row is a number, or divides the other one: f is () then.
        self.assertEqual(cofactors(row(5), SPRING), (row(Fraction(1, 5)), ()))
        self.assertEqual(cofactors(row(4, -2), plain_product(SLOW, WILD)), (row(Fraction(1, 4)), ()))
        # A row beside one of the degree 1, by the worth at its zero.
        self.assertEqual(cofactors(SPRING, WILD)[0], row(1 / plain_worth(SPRING, Fraction(1, 2))))

    def test_far_beyond_64_bits(self):
        one = row(10 ** 60 + 7, Fraction(-3, 10 ** 55 + 1), 10 ** 70)
        other = row(1, Fraction(10 ** 80, 7))
        part = row(1, Fraction(3, 10 ** 50 + 3), -10 ** 45)
        self.check(plain_product(one, part), plain_product(other, part))
        self.assertEqual(common_divisor(plain_product(one, part), plain_product(other, part)), part)
        self.assertEqual(row_product(one, other), plain_product(one, other))
        self.assertEqual(parted(plain_product(one, part), one), (part, ()))
        self.assertEqual(value_at(one, (10 ** 40, 3)), pair(plain_worth(one, Fraction(10 ** 40, 3))))

    def test_small_numbers(self):
        # Rows whose worths at small numbers have much in common, although they have no divisor.
        rows = [row(*numbers) for numbers in product((-4, -1, 0, 2, 3), repeat=3)]
        for one in rows[::2]:
            for other in rows[1::3]:
                if one != () or other != ():
                    with self.subTest(one=one, other=other):
                        self.check(one, other)

    def test_common_parts_of_small_numbers(self):
        rows = [row(*numbers) for numbers in product((-3, 1, 4), repeat=2)]
        parts = [row(2, 1), row(-3, 4), row(3, 0, 1), row(1, -5, 5), row(0, 7, 2)]
        for one, other, part in product(rows, rows, parts):
            with self.subTest(one=one, other=other, part=part):
                self.check(plain_product(one, part), plain_product(other, part))

    def test_many_numbers(self):
        one = row(*[Fraction(k * k - 40, k + 1) for k in range(16)])
        other = row(*[Fraction(3 * k + 1, 2 * k + 5) for k in range(14)])
        self.check(one, other)
        self.assertEqual(common_divisor(one, other), row(1))


class Errors(ErrorCase):

    def test_rows_that_are_none(self):
        for at, value in enumerate(NO_ROWS):
            for call in (row_sum, row_less, row_product, parted, divides, common_divisor, cofactors):
                with self.subTest(at=at, call=call):
                    self.fails_given(InvalidRow, value, call, value, SLOW)
                    self.fails_given(InvalidRow, value, call, SLOW, value)
                    self.fails_given(InvalidRow, value, call, other=value, row=SLOW)
                    self.fails_given(InvalidRow, value, call, other=SLOW, row=value)
            self.fails_given(InvalidRow, value, value_at, value, ONE)
            self.fails_given(InvalidRow, value, value_at, fraction=ONE, row=value)

    def test_fractions_that_are_none(self):
        for at, value in enumerate(NO_FRACTIONS):
            with self.subTest(at=at):
                self.fails_given(InvalidFraction, value, value_at, SLOW, value)
                self.fails_given(InvalidFraction, value, value_at, (), value)
                self.fails_given(InvalidFraction, value, value_at, fraction=value, row=SLOW)

    def test_the_first_error(self):
        bad, worse = [(1, 1)], ((2, 4),)
        for call in (row_sum, row_less, row_product, parted, divides, common_divisor, cofactors):
            with self.subTest(call=call):
                self.fails_given(InvalidRow, bad, call, bad, worse)
                self.fails_given(InvalidRow, worse, call, worse, bad)
                self.fails_given(InvalidRow, worse, call, other=bad, row=worse)
                self.fails_given(InvalidRow, bad, call, bad, ())
                if call != divides:
                    self.fails_given(InvalidRow, bad, call, (), bad)
        self.fails_given(InvalidRow, bad, value_at, bad, (2, 4))
        self.fails_given(InvalidRow, bad, value_at, fraction=(2, 4), row=bad)

    def test_the_nought_row(self):
        self.fails_given(InvalidRow, (), parted, SLOW, ())
        self.fails_given(InvalidRow, (), parted, (), ())
        self.fails_given(InvalidRow, (), divides, (), SLOW)
        self.fails_given(InvalidRow, (), divides, (), ())
        self.fails_given(InvalidRow, (), divides, (), [])
        self.fails_given(InvalidRow, (), common_divisor, (), ())
        self.fails_given(InvalidRow, (), cofactors, (), ())
        self.assertEqual(row_sum((), ()), ())
        self.assertEqual(row_less((), ()), ())
        self.assertEqual(row_product((), ()), ())
        self.assertEqual(row_product((), SLOW), ())
        self.assertEqual(value_at((), ONE), NIL)


if __name__ == "__main__":
    unittest.main()

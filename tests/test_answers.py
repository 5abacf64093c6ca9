"""Answers: what one is, their numbers, their arithmetic, and their errors."""

import unittest
from fractions import Fraction

from allhelms.answers import (answer_of, answer_over, answer_product, answer_sum, dies_out, first_numbers,
                              is_answer, whole_sum)
from allhelms.errors import InvalidAnswer, InvalidNumber, InvalidRow, NotSteady, NoughtFirst
from tests.checks import ErrorCase
from tests.tools import (NIL, NO_ANSWERS, NO_ROWS, ONE, SLOW, SPRING, WILD, is_plain_row, pair, plain,
                         plain_product, row, some_rows)

SILENT = ((), (ONE,))
WHOLE = ((ONE,), (ONE,))
FADE, GROW, STEP = ((ONE,), SLOW), ((ONE,), WILD), ((ONE,), row(1, -1))
LATE = (row(0, 0, 3), SPRING)
BIG = (row(10 ** 40, Fraction(1, 10 ** 30)), row(1, Fraction(10 ** 30, 7)))
ANSWERS = [SILENT, WHOLE, FADE, GROW, STEP, LATE, BIG, (row(0, 1), (ONE,)), (row(1, -2, 3), (ONE,)),
           (row(-5), (ONE,)), (row(1, 1), row(1, 0, Fraction(1, 3))), (row(2, -3), plain_product(SLOW, SPRING)),
           (row(0, 1, -2), row(1, -1))]
STEADY = [SILENT, WHOLE, FADE, LATE, ANSWERS[7], ANSWERS[8], ANSWERS[9], ANSWERS[10], ANSWERS[11]]


def numbers_by_definition(top, under, many):
    """The first numbers of a quotient of rows, by long division of the sums."""
    rest = plain(top) + [Fraction(0)] * (many + len(under))
    told = []
    for k in range(many):
        number = rest[k] / plain(under)[0]
        told.append(number)
        for i, part in enumerate(plain(under)):
            rest[k + i] -= number * part
    return told


def first_of(answer, many):
    """The first numbers as Fraction, by the definition."""
    return numbers_by_definition(answer[0], answer[1], many)


class Kinds(unittest.TestCase):

    def test_answers(self):
        for value in ANSWERS:
            with self.subTest(value=value):
                self.assertIs(is_answer(value), True)
                self.assertIs(is_answer(value=value), True)

    def test_no_answers(self):
        for at, value in enumerate(NO_ANSWERS):
            with self.subTest(at=at):
                self.assertIs(is_answer(value), False)

    def test_no_rows_in_it(self):
        for at, value in enumerate(NO_ROWS):
            with self.subTest(at=at):
                self.assertIs(is_answer((value, (ONE,))), False)
                self.assertIs(is_answer((row(1, 2), value)), False)

    def test_common_divisors(self):
        self.assertIs(is_answer((plain_product(SLOW, WILD), plain_product(SLOW, SPRING))), False)
        self.assertIs(is_answer((row(0, 1, -2), WILD)), False)
        self.assertIs(is_answer((row(6), row(1, 2))), True)
        self.assertIs(is_answer((row(6, 2), row(1, 2))), True)


class Quotients(unittest.TestCase):

    def check(self, top, under):
        answer = answer_of(top, under)
        self.assertEqual(answer_of(other=under, row=top), answer)
        self.assertIs(is_answer(answer), True)
        self.assertTrue(is_plain_row(answer[0]) and is_plain_row(answer[1]))
        self.assertEqual(plain_product(answer[0], under), plain_product(top, answer[1]))
        wanted = tuple(pair(number) for number in numbers_by_definition(top, under, 12))
        self.assertEqual(first_numbers(answer, 12), wanted)
        return answer

    def test_multiples_tell_the_same(self):
        rows = some_rows(3, 12, most=4)
        unders = [value for value in some_rows(4, 30, most=4) if value != () and value[0] != NIL]
        for top in rows:
            for under, part in zip(unders[:8], unders[1:]):
                with self.subTest(top=top, under=under, part=part):
                    answer = self.check(top, under)
                    more = self.check(plain_product(top, part), plain_product(under, part))
                    self.assertEqual(more, answer)

    def test_by_hand(self):
        self.assertEqual(answer_of((), SLOW), SILENT)
        self.assertEqual(answer_of((), row(-7)), SILENT)
        self.assertEqual(answer_of(row(3), row(-6, 3)), (row(Fraction(-1, 2)), SLOW))
        self.assertEqual(answer_of(SLOW, row(2, -1)), (row(Fraction(1, 2)), (ONE,)))
        self.assertEqual(answer_of(row(0, 0, 4), row(2)), (row(0, 0, 2), (ONE,)))
        self.assertEqual(answer_of(plain_product(SLOW, WILD), plain_product(SLOW, SPRING)), (WILD, SPRING))

    def test_answers_tell_themselves(self):
        for top, under in ANSWERS:
            self.assertEqual(answer_of(top, under), (top, under))


class Numbers(unittest.TestCase):

    def test_first_numbers(self):
        for answer in ANSWERS:
            for many in (0, 1, 2, 3, 7, 59, 60):
                with self.subTest(answer=answer, many=many):
                    wanted = tuple(pair(number) for number in first_of(answer, many))
                    self.assertEqual(first_numbers(answer, many), wanted)
                    self.assertEqual(first_numbers(number=many, answer=answer), wanted)

    def test_by_hand(self):
        self.assertEqual(first_numbers(FADE, 3), ((1, 1), (1, 2), (1, 4)))
        self.assertEqual(first_numbers(STEP, 60), (ONE,) * 60)
        self.assertEqual(first_numbers(SILENT, 2), (NIL, NIL))
        self.assertEqual(first_numbers((row(1, 2), (ONE,)), 4), (ONE, (2, 1), NIL, NIL))
        self.assertEqual(first_numbers(FADE, 0), ())
        self.assertEqual(first_numbers(GROW, 60)[59], (2 ** 59, 1))


class Arithmetic(unittest.TestCase):

    def same_numbers(self, answer, wanted):
        self.assertIs(is_answer(answer), True)
        self.assertEqual(first_numbers(answer, len(wanted)), tuple(pair(number) for number in wanted))

    def test_sums(self):
        for one in ANSWERS:
            for other in ANSWERS:
                with self.subTest(one=one, other=other):
                    told = answer_sum(one, other)
                    self.assertEqual(answer_sum(other=one, answer=other), told)
                    wanted = [x + y for x, y in zip(first_of(one, 14), first_of(other, 14))]
                    self.same_numbers(told, wanted)

    def test_products(self):
        for one in ANSWERS:
            for other in ANSWERS:
                with self.subTest(one=one, other=other):
                    told = answer_product(one, other)
                    self.assertEqual(answer_product(other=one, answer=other), told)
                    ours, theirs = first_of(one, 14), first_of(other, 14)
                    wanted = [sum(ours[i] * theirs[k - i] for i in range(k + 1)) for k in range(14)]
                    self.same_numbers(told, wanted)

    def test_quotients(self):
        for one in ANSWERS:
            for other in ANSWERS:
                if first_of(other, 1) == [0]:
                    continue
                with self.subTest(one=one, other=other):
                    told = answer_over(one, other)
                    self.assertEqual(answer_over(other=other, answer=one), told)
                    self.assertIs(is_answer(told), True)
                    self.assertEqual(answer_product(told, other), one)

    def test_with_noughts(self):
        for one in ANSWERS:
            self.assertEqual(answer_sum(one, SILENT), one)
            self.assertEqual(answer_product(one, SILENT), SILENT)
            self.assertEqual(answer_product(one, WHOLE), one)
            self.assertEqual(answer_over(one, WHOLE), one)
            turned = answer_product(one, (row(-1), (ONE,)))
            self.assertEqual(answer_sum(one, turned), SILENT)
        self.assertEqual(answer_over(SILENT, GROW), SILENT)
        self.assertEqual(answer_over(LATE, FADE), (plain_product(row(0, 0, 3), SLOW), SPRING))

    def test_by_hand(self):
        self.assertEqual(answer_product(FADE, (SLOW, (ONE,))), WHOLE)
        self.assertEqual(answer_over(FADE, GROW), (WILD, SLOW))
        self.assertEqual(answer_over(WHOLE, (row(2, -1), WILD)), (row(Fraction(1, 2), -1), SLOW))
        self.assertEqual(answer_sum(STEP, (row(-1), row(1, -1))), SILENT)
        self.assertEqual(answer_sum(FADE, GROW), (row(2, Fraction(-5, 2)), plain_product(SLOW, WILD)))


class DyingOut(unittest.TestCase):

    def test_dies_out(self):
        for answer in ANSWERS:
            with self.subTest(answer=answer):
                self.assertIs(dies_out(answer), answer in STEADY)
                self.assertIs(dies_out(answer=answer), answer in STEADY)
        # By the quotient told without common divisor.
        self.assertIs(dies_out(answer_of(WILD, plain_product(WILD, SLOW))), True)
        self.assertIs(dies_out(answer_of(row(1), row(1, 0, 1))), False)
        self.assertIs(dies_out(answer_of(row(1), row(1, 1))), False)

    def test_whole_sum(self):
        for answer in STEADY:
            with self.subTest(answer=answer):
                wanted = pair(sum(plain(answer[0])) / sum(plain(answer[1])))
                self.assertEqual(whole_sum(answer), wanted)
                self.assertEqual(whole_sum(answer=answer), wanted)
                # What is left of the sums behind 60 numbers is little.
                gap = Fraction(*wanted) - sum(plain(first_numbers(answer, 60)))
                self.assertLess(abs(gap), Fraction(1, 10 ** 6))

    def test_whole_sum_by_hand(self):
        self.assertEqual(whole_sum(SILENT), NIL)
        self.assertEqual(whole_sum(WHOLE), ONE)
        self.assertEqual(whole_sum(FADE), (2, 1))
        self.assertEqual(whole_sum((row(1, -2, 3), (ONE,))), (2, 1))
        self.assertEqual(whole_sum((row(1, -1), SLOW)), NIL)


class Errors(ErrorCase):

    def test_answers_that_are_none(self):
        for at, value in enumerate(NO_ANSWERS):
            for call in (answer_sum, answer_product, answer_over):
                with self.subTest(at=at, call=call):
                    self.fails_given(InvalidAnswer, value, call, value, FADE)
                    self.fails_given(InvalidAnswer, value, call, FADE, value)
                    self.fails_given(InvalidAnswer, value, call, other=value, answer=FADE)
                    self.fails_given(InvalidAnswer, value, call, other=FADE, answer=value)
            with self.subTest(at=at):
                self.fails_given(InvalidAnswer, value, dies_out, value)
                self.fails_given(InvalidAnswer, value, whole_sum, value)
                self.fails_given(InvalidAnswer, value, whole_sum, answer=value)
                self.fails_given(InvalidAnswer, value, first_numbers, value, 3)
                self.fails_given(InvalidAnswer, value, first_numbers, number=3, answer=value)

    def test_numbers_out_of_bounds(self):
        for value in (-1, 61, 10 ** 30, -10 ** 30, True, False, None, "3", (3, 1), [3], b"3", object()):
            with self.subTest(value=value):
                self.fails_given(InvalidNumber, value, first_numbers, FADE, value)
                self.fails_given(InvalidNumber, value, first_numbers, number=value, answer=SILENT)

    def test_rows_that_are_none(self):
        for at, value in enumerate(NO_ROWS):
            with self.subTest(at=at):
                self.fails_given(InvalidRow, value, answer_of, value, SLOW)
                self.fails_given(InvalidRow, value, answer_of, SLOW, value)
                self.fails_given(InvalidRow, value, answer_of, other=SLOW, row=value)
        for value in ((), row(0, 1), row(0, 0, 5, 1)):
            self.fails_given(InvalidRow, value, answer_of, SLOW, value)
            self.fails_given(InvalidRow, value, answer_of, (), value)
            self.fails_given(InvalidRow, value, answer_of, other=value, row=SLOW)

    def test_the_first_error(self):
        bad, worse = [(1, 1)], (SLOW, SLOW)
        for call in (answer_sum, answer_product, answer_over):
            self.fails_given(InvalidAnswer, bad, call, bad, worse)
            self.fails_given(InvalidAnswer, worse, call, worse, bad)
            self.fails_given(InvalidAnswer, worse, call, other=bad, answer=worse)
        self.fails_given(InvalidAnswer, worse, first_numbers, worse, 61)
        self.fails_given(InvalidRow, bad, answer_of, bad, ())
        self.fails_given(InvalidRow, worse, answer_of, worse, bad)

    def test_what_is_told_with_last(self):
        for value in (SILENT, LATE, (row(0, 1), (ONE,)), (row(0, 1), WILD)):
            with self.subTest(value=value):
                self.fails(NoughtFirst, None, None, answer_over, FADE, value)
                self.fails(NoughtFirst, None, None, answer_over, SILENT, value)
                self.fails(NoughtFirst, None, None, answer_over, other=value, answer=value)
                self.fails_given(InvalidAnswer, None, answer_over, None, value)
        for value in (GROW, STEP, BIG, (row(1), row(1, 1, 1))):
            with self.subTest(value=value):
                self.fails(NotSteady, None, None, whole_sum, value)
                self.fails(NotSteady, None, None, whole_sum, answer=value)
        # No answer, although its lower row is not steady.
        both = (WILD, WILD)
        self.fails_given(InvalidAnswer, both, whole_sum, both)


if __name__ == "__main__":
    unittest.main()

"""The examples of the document, line by line, each with the answer that stands there."""

import unittest

import allhelms.errors

STAGE_ONE = """
>>> from allhelms.rows import cofactors, common_divisor, divides, is_row, parted, row_less, row_product, row_sum, value_at
>>> from allhelms.steady import bends_of, is_quick, is_steady, row_of
>>> from allhelms.answers import answer_of, answer_over, answer_product, answer_sum, dies_out, first_numbers, is_answer, whole_sum
>>> slow, wild, spring = ((1, 1), (-1, 2)), ((1, 1), (-2, 1)), ((1, 1), (1, 2), (1, 4))
>>> [is_row(((0, 1),)), is_row(()), row_product(slow, wild), row_sum(slow, ((-1, 1),)), row_less(slow, slow), value_at(slow, (2, 1)), parted(((1, 1), (0, 1), (-1, 4)), slow), divides(slow, ((1, 1), (0, 1), (-1, 4)))]
[False, True, ((1, 1), (-5, 2), (1, 1)), ((0, 1), (-1, 2)), (), (0, 1), (((1, 1), (1, 2)), ()), True]
>>> [common_divisor(((1, 1), (0, 1), (-1, 4)), ((2, 1), (-1, 1))) == slow, cofactors(slow, wild), cofactors(slow, ((2, 1),)), cofactors(((2, 1),), ())]
[True, (((4, 3),), ((-1, 3),)), ((), ((1, 2),)), (((1, 2),), ())]
>>> [is_steady(slow), is_steady(wild), bends_of(spring), bends_of(wild), row_of(((1, 4), (2, 5))) == spring, is_quick(slow, (1, 2)), is_quick(slow, (2, 3))]
[True, False, ((1, 4), (2, 5)), None, True, False, True]
>>> fade, grow = answer_of(((1, 1),), slow), answer_of(((1, 1),), wild)
>>> [fade, first_numbers(fade, 4), answer_of(slow, slow), dies_out(fade), dies_out(grow), whole_sum(fade), answer_over(fade, grow), answer_sum(fade, fade), is_answer((slow, slow))]
[(((1, 1),), ((1, 1), (-1, 2))), ((1, 1), (1, 2), (1, 4), (1, 8)), (((1, 1),), ((1, 1),)), True, False, (2, 1), (((1, 1), (-2, 1)), ((1, 1), (-1, 2))), (((2, 1),), ((1, 1), (-1, 2))), False]
"""


class Examples(unittest.TestCase):

    def follow(self, text):
        """Run the lines behind `>>>`; the line behind each list or call is its answer."""
        names = {}
        lines = [line for line in text.split("\n") if line]
        for at, line in enumerate(lines):
            if not line.startswith(">>> "):
                continue
            code = line[4:]
            answer = lines[at + 1] if at + 1 < len(lines) else ">>> "
            with self.subTest(line=code):
                if answer.startswith(">>> "):
                    exec(code, names)
                elif answer.startswith("raises "):
                    self.check_error(code, names, answer[len("raises "):])
                else:
                    # By their texts, as True is equal to 1.
                    self.assertEqual(repr(eval(code, names)), repr(eval(answer)))

    def check_error(self, code, names, answer):
        told = eval(answer, vars(allhelms.errors).copy())
        with self.assertRaises(type(told)) as caught:
            eval(code, names)
        self.assertIs(type(caught.exception), type(told))
        self.assertEqual(vars(caught.exception), vars(told))

    def test_stage_one(self):
        self.follow(STAGE_ONE)


if __name__ == "__main__":
    unittest.main()

"""The checker: which papers it accepts for which claims, and that it accepts nothing else."""

import unittest
from fractions import Fraction

from allhelms.checker import accepts
from allhelms.helms import base_helm, free_answer, helm_of, least_helm
from allhelms.least import is_told, least_row, least_worst, told_zeros, worst_weights
from allhelms.limits import error_answer, fixed_sum, helm_with_sum, is_error
from allhelms.loops import closing_row, fewest_beats, is_steady_loop, last_beat
from allhelms.machines import can_be_steadied, hidden_part
from allhelms.parity import difference_of, has_steady_helm, one_for_both, parting_stretch
from allhelms.rows import divides
from allhelms.rules import can_follow, follows
from allhelms.steady import bends_of, is_steady
from allhelms.worst import worst_near, worst_row
from tests.things import (BACK, CALM, CART, DEAF, HAND, HEAVY, IDLE, KEEP, LATE, LONG, NO_HELMS, NO_LED_ROWS,
                          NO_MACHINES,
                          NO_RULES, ODD, SHY, STUCK, TURN, TWICE, VAST, grown)
from tests.tools import (HALF, LESS, NIL, NO_ANSWERS, NO_FRACTIONS, NO_ROWS, NO_TUPLES, ONE, SLOW, SPRING, TWO, WILD,
                         Liar, deep, pair, plain_product, row)

F = Fraction
SURE = (row(3, -2), KEEP)
# What is told to the first machine grows, what it shows does not.
COVERED, COVERING = (row(0, 1, -2), row(1)), (row(F(1, 2)), WILD)
TRAIL = (row(F(3, 2)), row(1))
HIDDEN = grown(CART, SLOW)
LOSING = grown(CART, plain_product(SLOW, WILD))
TURNED, TWIN = (row(0, -1), WILD), (row(0, 1), row(1, 2))
FADE, GROW, SILENT, KICK = (row(1), SLOW), (row(1), WILD), ((), row(1)), (row(0, 2, -3), row(1))
MACHINES = [CART, BACK, STUCK, DEAF, SHY, ODD, LATE, HEAVY, CALM, TWICE, HIDDEN, LOSING, grown(ODD, SPRING), TURNED,
            TWIN]
HELMS = [HAND, IDLE, SURE, TRAIL, (row(-1), row(1, 2)), ((), row(1, 3)), grown(HAND, SLOW), grown(HAND, WILD)]
RULES = [KEEP, WILD, SLOW, TURN, row(1, -2, 1), plain_product(SLOW, KEEP)]
ROWS = [row(1), row(-5), SLOW, WILD, KEEP, SPRING, TURN, row(2, -1), row(0, 1), row(3, -6), plain_product(SLOW, WILD)]
ERRORS = [(WILD, row(1)), (row(1), row(1)), (row(1, -1, -2), row(1)), (row(1), WILD), SILENT, (WILD, SPRING),
          (plain_product(WILD, WILD), row(1))]
PLACES = [HALF, ONE, NIL, LESS, (1, 4), (3, 4)]

# Each form with claims that are so, each with papers that show it.
RIGHT = [
    (("bends", SLOW, ((-1, 2),)), ()), (("bends", row(2, -1), ((-1, 2),)), ()), (("bends", row(-7), ()), ()),
    (("bends", SPRING, ((1, 4), (2, 5))), ()), (("bends", row(1, F(1, 10 ** 40)), ((1, 10 ** 40),)), ()),
    (("unsteady", WILD), ()), (("unsteady", KEEP), ()), (("unsteady", row(0, 1)), ()), (("unsteady", TURN), ()),
    (("unsteady", row(0, 0, 10 ** 40)), ()),
    (("loop steady", CART, HAND), ()), (("loop steady", CART, SURE), ()), (("loop steady", CART, TRAIL), ((-1, 2),)),
    (("loop steady", HIDDEN, TRAIL), bends_of(plain_product(SLOW, SLOW))),
    (("runs away", CART, IDLE), (row(1), ())), (("runs away", CART, IDLE), (row(F(-1, 10 ** 40)), ())),
    (("runs away", (row(0, 1), SLOW), ((), row(1, 3))), ((), row(1))),
    (("runs away", (row(0, 1), SLOW), ((), row(1, 3))), (row(1), row(-5))),
    (("runs away", COVERED, COVERING), ((), row(1))), (("runs away", COVERED, COVERING), (row(-3, 1), ())),
    (("runs away", STUCK, HAND), (row(1, 1), ())), (("runs away", CART, grown(HAND, KEEP)), ((), row(1))),
    (("can be steadied", CART), HAND), (("can be steadied", CART), grown(HAND, SLOW)),
    (("can be steadied", HIDDEN), TRAIL),
    (("can be steadied", BACK), base_helm(BACK)), (("can be steadied", CALM), IDLE),
    (("cannot be steadied", STUCK), WILD), (("cannot be steadied", STUCK), row(3, -6)),
    (("cannot be steadied", LOSING), WILD), (("cannot be steadied", LOSING), plain_product(SLOW, WILD)),
    (("of free", CART, SURE, (row(1), row(1))), ()), (("of free", CART, HAND, SILENT), ()),
    (("of free", HIDDEN, grown(SURE, SLOW), (row(1), row(1))), ()),
    (("of free", CART, TRAIL, free_answer(CART, TRAIL)), ()),
    (("closed by", CART, SLOW), TRAIL), (("closed by", CART, row(1)), SURE), (("closed by", CART, row(1)), HAND),
    (("closed by", STUCK, WILD), IDLE), (("closed by", CART, row(1, 10 ** 40)), (row(10 ** 40 + 2), row(1))),
    (("closed by", CART, WILD), IDLE),
    (("never closed by", STUCK, row(1)), WILD), (("never closed by", STUCK, row(1)), row(-1, 2)),
    (("never closed by", LOSING, SLOW), WILD), (("never closed by", LOSING, WILD), SLOW),
    (("never closed by", LOSING, WILD), plain_product(SLOW, WILD)),
    (("over", CART, 1), HAND), (("over", BACK, 3), base_helm(BACK)), (("over", (row(0, 1, 1), row(1)), 2), IDLE),
    (("never over", STUCK), WILD), (("never over", HIDDEN), SLOW), (("never over", HIDDEN), row(2, -1)),
    (("never over", LOSING), WILD), (("never over", LOSING), SLOW),
    (("follows", CART, SURE, KEEP), ()), (("follows", CART, HAND, SLOW), ()), (("follows", CART, HAND, WILD), ()),
    (("does not follow", CART, HAND, KEEP), row(1)), (("does not follow", CART, HAND, KEEP), row(-7)),
    (("does not follow", CART, HAND, row(1, -2, 1)), row(0, 1)), (("does not follow", CART, SURE, TURN), row(1, 5)),
    (("can follow", CART, KEEP), SURE), (("can follow", CART, SLOW), HAND),
    (("can follow", HIDDEN, KEEP), grown(SURE, SLOW)),
    (("none follows", DEAF, KEEP), ()), (("none follows", STUCK, SLOW), ()), (("none follows", SHY, row(1, -4)), ()),
    (("error of one", CART, (WILD, row(1))), HAND), (("error of one", CART, (WILD, row(1))), grown(HAND, SLOW)),
    (("error of one", CALM, (row(1), row(1))), IDLE), (("error of one", CART, error_answer(CART, SURE)), SURE),
    (("error of none", CART, (row(1), row(1))), ()), (("error of none", STUCK, (WILD, row(1))), ()),
    (("error of none", CART, SILENT), ()), (("error of none", CART, GROW), ()),
    (("sum fixed", CART, HALF, NIL), ()), (("sum fixed", BACK, HALF, ONE), ()), (("sum fixed", BACK, ONE, NIL), ()),
    (("sum fixed", CART, NIL, ONE), ()), (("sum fixed", DEAF, ONE, ONE), ()),
    (("sum free", CART, ONE, (-1, 1)), HAND), (("sum free", CART, LESS, (3, 1)), HAND),
    (("sum free", CART, ONE, (10 ** 40, 7)), helm_with_sum(CART, ONE, (10 ** 40, 7))),
    (("sum free", CART, ONE, NIL), SURE),
    (("worst within", FADE, (6, 5), TWO), row(1, F(1, 2))), (("worst within", FADE, LESS, (9, 1)), row(1)),
    (("worst within", KICK, (5, 1), (5, 1)), row(1)), (("worst within", SILENT, NIL, NIL), row(1)),
    (("worst within", FADE) + worst_near(FADE, 10 ** 6), worst_row(FADE, 10 ** 6)),
    (("least worst", CART, TWO), (row(0, 2), (TWO,))),
    (("least worst", SHY, (10, 1)), (row(0, -2, 8), ((-24, 1), (10, 1)))),
    (("least worst", ODD, (182, 19)), (least_row(ODD), worst_weights(ODD))),
    (("least worst", (row(0, 1), SLOW), NIL), ((), ())),
    (("least worst", (row(0, 1, -4), SLOW), NIL), ((), (NIL,))),
    (("least worst", (row(0, 1, -4), SLOW), NIL), ((), ((4, 1),))),
    (("least worst", HIDDEN, TWO), (row(0, 2), (TWO,))),
    (("steady helm", CART), ()), (("steady helm", SHY), ()), (("steady helm", grown(SHY, SPRING)), ()),
    (("no steady helm", ODD), ((3, 4), (3, 4))), (("no steady helm", ODD), ((5, 8), ONE)),
    (("no steady helm", grown(ODD, SPRING)), ((5, 8), ONE)), (("no steady helm", DEAF), (ONE, ONE)),
    (("one for both", CART, TWIN), ()), (("one for both", CART, CART), ()), (("one for both", CART, HIDDEN), ()),
    (("none for both", CART, TURNED), (HALF, HALF)), (("none for both", CART, TURNED), ((1, 3), ONE)),
    (("none for both", HIDDEN, TURNED), (HALF, HALF)),
]

# Papers that come near to being right, or that are right for other claims.
WRONG = [
    (("bends", SLOW, ((1, 2),)), ()), (("bends", SLOW, ()), ()), (("bends", SPRING, ((2, 5), (1, 4))), ()),
    (("bends", SPRING, ((1, 4),)), ()), (("bends", SPRING, ((1, 4), (2, 5), NIL)), ()),
    (("bends", WILD, ((-2, 1),)), ()),
    (("bends", WILD, ()), ()), (("bends", SLOW, None), ()), (("bends", (), ()), ()), (("bends", row(0, 1), ()), ()),
    (("bends", SLOW, (Liar(),)), ()), (("bends", SLOW, Liar()), ()), (("bends", SLOW, [(-1, 2)]), ()),
    (("bends", SLOW, ([-1, 2],)), ()), (("bends", row(1), (Liar(),)), ()), (("bends", KEEP, ((-1, 1),)), ()),
    (("unsteady", SLOW), ()), (("unsteady", row(5)), ()), (("unsteady", ()), ()),
    (("unsteady", row(1, F(10 ** 40 - 1, 10 ** 40))), ()),
    (("loop steady", CART, TRAIL), ()), (("loop steady", CART, TRAIL), ((1, 2),)),
    (("loop steady", CART, HAND), ((1, 2),)),
    (("loop steady", CART, IDLE), ()), (("loop steady", CART, IDLE), ((-2, 1),)),
    (("loop steady", CART, TRAIL), (Liar(),)),
    (("loop steady", CART, TRAIL), Liar()), (("loop steady", CART, TRAIL), [(-1, 2)]),
    (("loop steady", HIDDEN, TRAIL), ((-1, 2),)), (("loop steady", STUCK, HAND), ()),
    (("loop steady", CART, HAND), None),
    (("runs away", CART, IDLE), ((), ())), (("runs away", CART, IDLE), (row(0, 1), ())),
    (("runs away", CART, IDLE), (row(1), row(1))),
    (("runs away", CART, IDLE), (row(1),)), (("runs away", CART, IDLE), row(1)),
    (("runs away", CART, IDLE), [row(1), ()]),
    (("runs away", CART, IDLE), (row(1), (), ())), (("runs away", CART, IDLE), (row(1), None)),
    (("runs away", CART, HAND), (row(1), ())), (("runs away", CART, TRAIL), (row(1), ())),
    (("runs away", (row(0, 1), plain_product(WILD, SLOW)), IDLE), (WILD, ())),
    (("runs away", (row(0, 1), SLOW), ((), row(1, 3))), (row(1), ())),
    (("runs away", (row(0, 1), SLOW), ((), row(1, 3))), ((), row(0, 1))),
    (("can be steadied", CART), IDLE), (("can be steadied", CART), ()), (("can be steadied", CART), grown(HAND, WILD)),
    (("can be steadied", CART), list(HAND)), (("can be steadied", STUCK), HAND),
    (("can be steadied", CART), (row(4), row(2))),
    (("cannot be steadied", STUCK), SLOW), (("cannot be steadied", STUCK), row(1)), (("cannot be steadied", STUCK), ()),
    (("cannot be steadied", STUCK), KEEP), (("cannot be steadied", STUCK), plain_product(WILD, WILD)),
    (("cannot be steadied", LOSING), SLOW), (("cannot be steadied", HIDDEN), SLOW),
    (("cannot be steadied", CART), WILD),
    (("cannot be steadied", BACK), WILD), (("cannot be steadied", BACK), KEEP),
    (("cannot be steadied", STUCK), row(0, 1)),
    (("of free", CART, SURE, SILENT), ()), (("of free", CART, IDLE, SILENT), ()),
    (("of free", CART, HAND, (row(1), row(1))), ()),
    (("of free", STUCK, HAND, SILENT), ()), (("of free", CART, grown(HAND, WILD), SILENT), ()),
    (("of free", CART, HAND, Liar()), ()),
    (("closed by", CART, SLOW), HAND), (("closed by", CART, row(2, -1)), TRAIL), (("closed by", CART, ()), TRAIL),
    (("closed by", STUCK, row(1)), HAND), (("closed by", CART, row(1)), ()), (("closed by", CART, row(1)), list(HAND)),
    (("never closed by", STUCK, row(1)), row(5)), (("never closed by", STUCK, row(1)), KEEP),
    (("never closed by", STUCK, WILD), WILD),
    (("never closed by", LOSING, SLOW), SLOW), (("never closed by", CART, row(1)), WILD),
    (("never closed by", STUCK, row(1)), ()),
    (("never closed by", STUCK, plain_product(WILD, SLOW)), WILD), (("never closed by", CART, SLOW), row(0, 1)),
    (("over", CART, 2), HAND), (("over", CART, 0), HAND), (("over", CART, 1), TRAIL), (("over", CART, True), HAND),
    (("over", CART, 2), SURE), (("over", CART, 1), SURE), (("over", CART, -1), HAND), (("over", CART, (1, 1)), HAND),
    (("over", CART, 1), ()), (("over", HIDDEN, 2), HAND), (("over", STUCK, 2), HAND), (("over", CART, None), IDLE),
    (("over", BACK, 3), HAND),
    (("never over", CART), row(1)), (("never over", CART), WILD), (("never over", STUCK), row(1)),
    (("never over", STUCK), ()),
    (("never over", STUCK), KEEP), (("never over", HIDDEN), plain_product(SLOW, SLOW)),
    (("never over", CART), row(0, 1)),
    (("follows", CART, HAND, KEEP), ()), (("follows", CART, IDLE, SLOW), ()), (("follows", CART, SURE, row(1)), ()),
    (("follows", CART, grown(SURE, WILD), KEEP), ()), (("follows", CART, SURE, KEEP), row(1)),
    (("follows", STUCK, SURE, KEEP), ()),
    (("does not follow", CART, HAND, KEEP), ()), (("does not follow", CART, HAND, KEEP), row(0, 1)),
    (("does not follow", CART, HAND, row(1, -2, 1)), plain_product(KEEP, KEEP)),
    (("does not follow", CART, SURE, KEEP), row(1)),
    (("does not follow", CART, IDLE, KEEP), row(1)), (("does not follow", CART, HAND, KEEP), [ONE]),
    (("does not follow", CART, HAND, plain_product(SLOW, KEEP)), KEEP), (("does not follow", CART, HAND, SLOW), row(1)),
    (("can follow", CART, KEEP), HAND), (("can follow", CART, KEEP), IDLE), (("can follow", CART, KEEP), ()),
    (("can follow", DEAF, KEEP), SURE), (("can follow", STUCK, SLOW), HAND),
    (("can follow", CART, KEEP), grown(SURE, WILD)),
    (("none follows", CART, KEEP), ()), (("none follows", DEAF, KEEP), SURE), (("none follows", CART, SLOW), ()),
    (("error of one", CART, (row(1), row(1))), HAND), (("error of one", CART, (WILD, row(1))), SURE),
    (("error of one", CART, (WILD, row(1))), ()),
    (("error of one", CART, (row(1), row(1))), IDLE), (("error of one", CART, (WILD, row(1))), grown(HAND, WILD)),
    (("error of none", CART, (WILD, row(1))), ()), (("error of none", CART, (row(1), row(1))), HAND),
    (("error of none", CALM, (row(1), row(1))), ()),
    (("sum fixed", CART, HALF, ONE), ()), (("sum fixed", CART, ONE, ONE), ()), (("sum fixed", CART, ONE, NIL), ()),
    (("sum fixed", STUCK, HALF, NIL), ()), (("sum fixed", STUCK, NIL, ONE), ()),
    (("sum fixed", TWIN, (-1, 2), NIL), HAND),
    (("sum fixed", (row(0, 1), row(1, F(-1, 2))), TWO, NIL), ()), (("sum fixed", CART, HALF, None), ()),
    (("sum fixed", CART, ONE, None), ()),
    (("sum free", CART, ONE, (-1, 1)), SURE), (("sum free", CART, ONE, (-1, 1)), IDLE),
    (("sum free", CART, HALF, NIL), HAND),
    (("sum free", CART, ONE, (-1, 1)), ()), (("sum free", CART, NIL, ONE), HAND), (("sum free", STUCK, ONE, NIL), HAND),
    (("sum free", CART, (3, 2), (-2, 1)), HAND), (("sum free", CART, ONE, (-2, 2)), HAND),
    (("worst within", FADE, (6, 5), TWO), row(1)),
    (("worst within", FADE, (6 * 10 ** 40 + 1, 5 * 10 ** 40), TWO), row(1, F(1, 2))),
    (("worst within", FADE, (6, 5), (2 * 10 ** 40 - 1, 10 ** 40)), row(1, F(1, 2))),
    (("worst within", FADE, NIL, (9, 1)), row(1, 1)),
    (("worst within", FADE, TWO, (6, 5)), row(1, F(1, 2))), (("worst within", GROW, NIL, (9, 1)), row(1)),
    (("worst within", FADE, LESS, (9, 1)), ()), (("worst within", FADE, LESS, (9, 1)), ((1, 1), (0, 1))),
    (("worst within", FADE, (2, 2), (9, 1)), row(1)), (("worst within", KICK, (5, 1), (49, 10)), row(1)),
    (("least worst", CART, (3, 1)), (row(0, 2), (TWO,))), (("least worst", CART, TWO), (row(0, 0, 4), (TWO,))),
    (("least worst", CART, TWO), (row(0, 2), ((3, 1),))), (("least worst", CART, TWO), (row(0, 2), (ONE,))),
    (("least worst", CART, TWO), (row(0, 2), ())), (("least worst", CART, TWO), (row(0, 2),)),
    (("least worst", CART, TWO), ()),
    (("least worst", CART, TWO), [row(0, 2), (TWO,)]), (("least worst", CART, TWO), (row(0, 2), [TWO])),
    (("least worst", CART, TWO), (row(0, 2), (2,))),
    (("least worst", CART, TWO), (row(1, 1), (TWO,))), (("least worst", CART, ONE), (row(1), (ONE,))),
    (("least worst", CART, (4, 1)), (row(0, 0, 4), ((4, 1),))), (("least worst", CART, (4, 1)), (row(0, 0, 4), (TWO,))),
    (("least worst", SHY, (10, 1)), (row(0, -2, 8), ((10, 1), (-24, 1)))),
    (("least worst", SHY, (10, 1)), (row(0, 2, -8), ((-24, 1), (10, 1)))),
    (("least worst", SHY, (10, 1)), (row(0, -2, 8), (NIL, (10, 1)))), (("least worst", BACK, ONE), (row(0, 1), (ONE,))),
    (("least worst", STUCK, NIL), ((), ())), (("least worst", (row(0, 1), SLOW), ONE), (row(0, 1), ())),
    (("least worst", (row(0, 1), SLOW), NIL), ((), (NIL,))),
    (("least worst", (row(0, 1, -4), SLOW), NIL), ((), ((5, 1),))),
    (("least worst", (row(0, 0, 1), WILD), TWO), (row(0, 2), (TWO,))),
    (("steady helm", ODD), ()), (("steady helm", DEAF), ()), (("steady helm", STUCK), ()),
    (("steady helm", CART), HAND),
    (("no steady helm", ODD), (HALF, ONE)), (("no steady helm", ODD), ((7, 8), ONE)), (("no steady helm", ODD), ()),
    (("no steady helm", CART), (HALF, ONE)),
    (("no steady helm", CART), ((3, 4), ONE)), (("no steady helm", STUCK), (ONE, ONE)),
    (("no steady helm", ODD), [(3, 4), ONE]), (("no steady helm", ODD), (ONE, (3, 4))),
    (("no steady helm", ODD), ((3, 4), TWO)), (("no steady helm", SHY), ((1, 4), (1, 4))),
    (("one for both", CART, TURNED), ()), (("one for both", CART, STUCK), ()), (("one for both", STUCK, STUCK), ()),
    (("one for both", STUCK, CART), ()), (("one for both", CART, TWIN), HAND),
    (("none for both", CART, TURNED), ((1, 4), ONE)), (("none for both", CART, TURNED), ((3, 5), ONE)),
    (("none for both", CART, TURNED), ()),
    (("none for both", CART, CART), (HALF, HALF)), (("none for both", CART, CART), ()),
    (("none for both", CART, TWIN), (HALF, ONE)), (("none for both", STUCK, TURNED), (HALF, HALF)),
    (("none for both", TURNED, STUCK), (HALF, HALF)), (("none for both", CART, HIDDEN), (LESS, ONE)),
]

PAPERS = [(), (ONE,), (HALF,), ((-1, 2),), HAND, IDLE, SURE, TRAIL, (row(-1), row(1, 2)), grown(HAND, SLOW), SLOW,
          WILD, KEEP, SPRING, row(0, 1),
          row(2, -1), (row(1), ()), ((), row(1)), ((), ()), (row(1), row(1)), (row(1, 1), ()), (HALF, HALF),
          (HALF, ONE), (LESS, ONE),
          ((3, 4), (3, 4)), (ONE, ONE), ((5, 8), ONE), (row(0, 2), (TWO,)), ((), (NIL,)),
          (row(0, -2, 8), ((-24, 1), (10, 1))), row(1, F(1, 2)),
          None, 7, True, "", "a", [], [row(1), ()], {}, object(), Liar(), deep(14), (None,), (Liar(), Liar()), (7, 7)]


class Accepted(unittest.TestCase):

    def test_right_papers(self):
        for claim, paper in RIGHT:
            with self.subTest(claim=claim, paper=paper):
                self.assertIs(accepts(claim, paper), True)
                self.assertIs(accepts(paper=paper, claim=claim), True)

    def test_each_form_is_tried(self):
        self.assertEqual(len({claim[0] for claim, _ in RIGHT}), 25)
        self.assertEqual({claim[0] for claim, _ in RIGHT}, {claim[0] for claim, _ in WRONG})

    def test_wrong_papers(self):
        for claim, paper in WRONG:
            with self.subTest(claim=claim, paper=paper):
                self.assertIs(accepts(claim, paper), False)
                self.assertIs(accepts(paper=paper, claim=claim), False)

    def test_papers_of_other_kinds(self):
        silent = {"bends", "unsteady", "of free", "follows", "none follows", "error of none", "sum fixed",
                  "steady helm", "one for both"}
        for claim, right in RIGHT:
            for paper in PAPERS:
                told = accepts(claim, paper)
                self.assertIs(type(told), bool)
                if claim[0] in silent:
                    self.assertIs(told, type(paper) is tuple and paper == ())
                elif told:
                    self.assertIs(type(paper), type(right))
            for paper in (None, 7, "", [], {}, Liar(), deep(14), (None,), (Liar(), Liar()), list(right), [list(right)]):
                self.assertIs(accepts(claim, paper), False)


class Claims(unittest.TestCase):

    def test_parts_left_out_or_too_many(self):
        for claim, paper in RIGHT:
            for value in (claim[:-1], claim[1:], claim + (claim[-1],), claim + ((),), claim + (paper,), list(claim),
                          claim[:1], claim[0], (claim,),
                          claim[:1] + (list(claim[1:]),), (list(claim[:1]),) + claim[1:]):
                with self.subTest(claim=value):
                    self.assertIs(accepts(value, paper), False)

    def test_wrong_words(self):
        for claim, paper in RIGHT:
            for word in (claim[0].upper(), claim[0] + " ", " " + claim[0], "", "steady", "quick", None, 7, True,
                         Liar(), claim[0].encode(), (claim[0],)):
                self.assertIs(accepts((word,) + claim[1:], paper), False)

    def test_parts_that_are_none(self):
        kinds = {"MACHINE": NO_MACHINES, "HELM": NO_HELMS, "ANSWER": NO_ANSWERS, "RULE": NO_RULES, "LED": NO_LED_ROWS,
                 "ROW": NO_ROWS + [()],
                 "FRACTION": NO_FRACTIONS, "X": NO_FRACTIONS + [TWO, (-3, 2)],
                 "BENDS": NO_TUPLES + [((2, 4),), (ONE,), (NIL, ONE), (None,), ((True, 2),)],
                 "WHOLE": [None, True, False, "1", (1, 1), [1], Liar(), ()]}
        for claim, paper in RIGHT:
            for at, kind in enumerate(FORMS[claim[0]].split()):
                for value in kinds[kind]:
                    bent = claim[:at + 1] + (value,) + claim[at + 2:]
                    with self.subTest(claim=bent):
                        self.assertIs(accepts(bent, paper), False)

    def test_lists_in_place_of_tuples(self):
        for claim, paper in RIGHT:
            for value in (claim, paper):
                for bent in listed(value):
                    with self.subTest(value=bent):
                        pair_told = (bent, paper) if value is claim else (claim, bent)
                        self.assertIs(accepts(*pair_told), False)

    def test_anything_else(self):
        values = NO_TUPLES + [(), ((),), ("",), ("bends",), deep(14), (deep(13), deep(13)), (Liar(),),
                              (Liar(), Liar(), Liar()), accepts, accepts]
        for value in values + NO_MACHINES[:20]:
            for paper in PAPERS + values:
                self.assertIs(accepts(value, paper), False)


FORMS = {"bends": "ROW BENDS", "unsteady": "ROW", "loop steady": "MACHINE HELM", "runs away": "MACHINE HELM",
         "can be steadied": "MACHINE",
         "cannot be steadied": "MACHINE", "of free": "MACHINE HELM ANSWER", "closed by": "MACHINE LED",
         "never closed by": "MACHINE LED",
         "over": "MACHINE WHOLE", "never over": "MACHINE", "follows": "MACHINE HELM RULE",
         "does not follow": "MACHINE HELM RULE",
         "can follow": "MACHINE RULE", "none follows": "MACHINE RULE", "error of one": "MACHINE ANSWER",
         "error of none": "MACHINE ANSWER",
         "sum fixed": "MACHINE X FRACTION", "sum free": "MACHINE X FRACTION",
         "worst within": "ANSWER FRACTION FRACTION",
         "least worst": "MACHINE FRACTION", "steady helm": "MACHINE", "no steady helm": "MACHINE",
         "one for both": "MACHINE MACHINE",
         "none for both": "MACHINE MACHINE"}


def listed(value):
    """The value with one of its tuples, itself or deep in it, as a list."""
    if type(value) is not tuple:
        return []
    found = [list(value)]
    for at, part in enumerate(value):
        found += [value[:at] + (bent,) + value[at + 1:] for bent in listed(part)]
    return found


def opposites():
    """Pairs of claims of which just one is so, with whether it is the first one."""
    found = [(("bends", value, bends_of(value) or ()), ("unsteady", value), is_steady(value)) for value in ROWS]
    for machine in MACHINES:
        rules = [(("can follow", machine, rule), ("none follows", machine, rule),
                  can_follow(machine, rule)) for rule in RULES]
        loops = [(("loop steady", machine, helm), ("runs away", machine, helm),
                  is_steady_loop(machine, helm)) for helm in HELMS]
        found += rules + loops + [(("can be steadied", machine), ("cannot be steadied", machine),
                                   can_be_steadied(machine))]
        found += [(("closed by", machine, wished), ("never closed by", machine, wished),
                   least_helm(machine, wished) is not None)
                  for wished in ROWS if wished[0] == ONE]
        beats = fewest_beats(machine)
        found += [(("over", machine, beats if beats is not None else number), ("never over", machine),
                   beats is not None) for number in (1, 2)]
        found += [(("error of one", machine, answer), ("error of none", machine, answer),
                   is_error(machine, answer)) for answer in ERRORS]
        if can_be_steadied(machine):
            found.append((("steady helm", machine), ("no steady helm", machine), has_steady_helm(machine)))
            found += [(("one for both", machine, other), ("none for both", machine, other),
                       one_for_both(machine, other))
                      for other in MACHINES if can_be_steadied(other)]
            for x in PLACES:
                fixed = fixed_sum(machine, x)
                found.append((("sum fixed", machine, x, fixed or ONE), ("sum free", machine, x, ONE),
                              fixed is not None))
        found += [(("follows", machine, helm, rule), ("does not follow", machine, helm, rule),
                   follows(machine, helm, rule))
                  for helm in HELMS for rule in RULES if is_steady_loop(machine, helm)]
    return found


class Opposites(unittest.TestCase):

    def test_at_most_one_has_a_paper(self):
        told = []
        for first, second, is_first in opposites():
            ours = [paper for paper in PAPERS if accepts(first, paper)]
            theirs = [paper for paper in PAPERS if accepts(second, paper)]
            with self.subTest(first=first, second=second):
                self.assertEqual((theirs if is_first else ours), [])
            told.append(len(ours) + len(theirs) > 0)
        self.assertGreater(told.count(True), 400)

    def test_values_exclude_one_another(self):
        for machine in MACHINES:
            if is_told(machine):
                paper = (least_row(machine), worst_weights(machine))
                least = F(*least_worst(machine))
                for value in (least, least + 1, least - F(1, 10 ** 40), least + F(1, 10 ** 40),
                              -least if least else F(1)):
                    self.assertIs(accepts(("least worst", machine, pair(value)), paper), value == least)
            for helm in HELMS:
                if can_be_steadied(machine) and is_steady_loop(machine, helm):
                    for other in HELMS:
                        if is_steady_loop(machine, other):
                            same = free_answer(machine, helm) == free_answer(machine, other)
                            self.assertIs(accepts(("of free", machine, helm, free_answer(machine, other)), ()), same)
            for number in range(8):
                for helm in HELMS + ([base_helm(machine)] if can_be_steadied(machine) else []):
                    wanted = fewest_beats(machine) == number and last_beat(machine, helm) == number
                    self.assertIs(accepts(("over", machine, number), helm), wanted)


class BentPapers(unittest.TestCase):

    def test_stretches(self):
        tiny = F(1, 10 ** 40)
        for machine, claim in ((ODD, ("no steady helm", ODD)),
                               (difference_of(CART, TURNED), ("none for both", CART, TURNED))):
            low, high = (F(*end) for end in parting_stretch(machine))
            self.assertIs(accepts(claim, (pair(low), pair(high))), True)
            # Out to where m' is 0, and to where n' has no zero any more.
            edge = {0: F(1, 2), 1: F(1, 4)}[claim[0] == "none for both"]
            zero = {0: F(3, 4), 1: F(1, 2)}[claim[0] == "none for both"]
            for first, last, wanted in ((edge + tiny, zero, True), (edge, zero, False), (edge - tiny, zero, False),
                                        (zero, F(1), True),
                                        (zero + tiny, F(1), False), (edge + tiny, zero - tiny, False),
                                        (zero, 1 + tiny, False),
                                        (F(1), zero, False), (-F(1), F(1), False)):
                self.assertIs(accepts(claim, (pair(first), pair(last))), wanted)

    def test_weights_and_rows(self):
        tiny = F(1, 10 ** 40)
        for machine in (CART, SHY, ODD, grown(SHY, SPRING), LATE):
            told, weights = least_row(machine), worst_weights(machine)
            claim = ("least worst", machine, least_worst(machine))
            self.assertIs(accepts(claim, (told, weights)), True)
            for at in range(len(weights)):
                for more in (tiny, -tiny, 1):
                    bent = weights[:at] + (pair(F(*weights[at]) + more),) + weights[at + 1:]
                    self.assertIs(accepts(claim, (told, bent)), False)
            for at in range(len(told) + 2):
                numbers = [F(*number) for number in told] + [F(0)] * 2
                numbers[at] += tiny
                self.assertIs(accepts(claim, (row(*numbers), weights)), False)
            self.assertEqual(len(told_zeros(machine)), len(weights))

    def test_pairs_of_bounds(self):
        tiny = F(1, 10 ** 40)
        for answer in (FADE, KICK, (row(1, -3), SPRING), (row(10 ** 40), SLOW)):
            low, high = worst_near(answer, 1000)
            value = worst_row(answer, 1000)
            for first, last, wanted in ((0, 0, True), (tiny, 0, False), (0, -tiny, False), (-tiny, tiny, True)):
                claim = ("worst within", answer, pair(F(*low) + first), pair(F(*high) + last))
                self.assertIs(accepts(claim, value), wanted)
                self.assertIs(accepts(claim, value[:0]), False)

    def test_bends_of_loops(self):
        for machine in MACHINES:
            for helm in HELMS:
                bends = bends_of(closing_row(machine, helm))
                if bends is None:
                    continue
                claim = ("loop steady", machine, helm)
                self.assertIs(accepts(claim, bends), True)
                for at in range(len(bends)):
                    bent = bends[:at] + (pair(F(*bends[at]) + F(1, 10 ** 40)),) + bends[at + 1:]
                    self.assertIs(accepts(claim, bent), False)
                self.assertIs(accepts(claim, bends + (NIL,)), False)
                self.assertIs(accepts(claim, bends[1:]), bends == ())

    def test_divisors(self):
        for machine in MACHINES:
            part = hidden_part(machine)
            for value in ROWS:
                both = divides(value, machine[0]) and divides(value, machine[1])
                self.assertIs(accepts(("cannot be steadied", machine), value), both and not is_steady(value))
                self.assertIs(accepts(("never over", machine), value), both and len(value) > 1)
                for wished in ROWS:
                    if wished[0] == ONE:
                        wanted = both and not divides(value, wished)
                        self.assertIs(accepts(("never closed by", machine, wished), value), wanted)
            self.assertIs(accepts(("never over", machine), part), len(part) > 1)

    def test_vast(self):
        helm = helm_of(VAST, (row(10 ** 40), row(1)))
        self.assertIs(accepts(("can be steadied", VAST), helm), True)
        self.assertIs(accepts(("of free", VAST, helm, (row(10 ** 40), row(1))), ()), True)
        self.assertIs(accepts(("of free", VAST, helm, (row(10 ** 40 + 1), row(1))), ()), False)
        self.assertIs(accepts(("error of one", VAST, error_answer(VAST, helm)), helm), True)
        self.assertIs(accepts(("over", LONG, fewest_beats(LONG)), base_helm(LONG)), True)


if __name__ == "__main__":
    unittest.main()

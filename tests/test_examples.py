"""The examples of the document, line by line, each with the answer that stands there."""

import unittest

import allhelms.errors

STAGE_ONE = """
>>> from allhelms.rows import cofactors, common_divisor, divides, is_row, parted, row_less, row_product, row_sum, value_at
>>> from allhelms.steady import bends_of, is_quick, is_steady, row_of
>>> from allhelms.answers import answer_of, answer_over, answer_product, answer_sum, dies_out, first_numbers, is_answer, whole_sum
>>> slow, wild, spring = ((1, 1), (-1, 2)), ((1, 1), (-2, 1)), ((1, 1), (1, 2), (1, 4))
>>> [is_row(((0, 1),)), is_row(()), row_product(slow, wild), row_sum(slow, ((-1, 1),)), row_less(slow, slow), value_at(slow, (2, 1)), parted(((1, 1), (0, 1), (-1, 4)), slow), divides(slow, ((1, 1), (0, 1), (-1, 4)))]
[False, True, ((1, 1), (-5, 2), (1, 1)), ((0, 1), (-1, 2)), (), (0, 1), (((1, 1), (1, 2)), ()), True]
>>> [common_divisor(((1, 1), (0, 1), (-1, 4)), ((2, 1), (-1, 1))) == slow, cofactors(slow, wild), cofactors(slow, ((2, 1),)), cofactors(((2, 1),), ())]
[True, (((4, 3),), ((-1, 3),)), ((), ((1, 2),)), (((1, 2),), ())]
>>> [is_steady(slow), is_steady(wild), bends_of(spring), bends_of(wild), row_of(((1, 4), (2, 5))) == spring, is_quick(slow, (1, 2)), is_quick(slow, (2, 3))]
[True, False, ((1, 4), (2, 5)), None, True, False, True]
>>> fade, grow = answer_of(((1, 1),), slow), answer_of(((1, 1),), wild)
>>> [fade, first_numbers(fade, 4), answer_of(slow, slow), dies_out(fade), dies_out(grow), whole_sum(fade), answer_over(fade, grow), answer_sum(fade, fade), is_answer((slow, slow))]
[(((1, 1),), ((1, 1), (-1, 2))), ((1, 1), (1, 2), (1, 4), (1, 8)), (((1, 1),), ((1, 1),)), True, False, (2, 1), (((1, 1), (-2, 1)), ((1, 1), (-1, 2))), (((2, 1),), ((1, 1), (-1, 2))), False]
"""

STAGE_TWO = """
>>> from allhelms.machines import can_be_steadied, core_of, hidden_part, is_helm, is_machine, same_helm, size_of
>>> nil, half, one, two, less = (0, 1), (1, 2), (1, 1), (2, 1), (-1, 1)
>>> cart, back, stuck = ((nil, one), (one, (-2, 1))), ((nil, one, (-2, 1)), (one, less)), ((nil, one, (-2, 1)), (one, (-2, 1)))
>>> [is_machine(cart), is_machine(((one,), (one,))), size_of(back), hidden_part(cart), hidden_part(stuck), core_of(stuck), can_be_steadied(cart), can_be_steadied(stuck)]
[True, False, 2, ((1, 1),), ((1, 1), (-2, 1)), (((0, 1), (1, 1)), ((1, 1),)), True, False]
>>> hand, idle = ((two,), (one,)), ((), (one,))
>>> [is_helm(hand), is_helm(idle), same_helm(hand, ((two, less), (one, (-1, 2)))), same_helm(hand, idle)]
[True, True, True, False]
>>> from allhelms.loops import closing_row, fewest_beats, four_answers, is_steady_loop, last_beat, running_start, shown
>>> [closing_row(cart, hand), closing_row(cart, idle), is_steady_loop(cart, hand), is_steady_loop(cart, idle), running_start(cart, hand), running_start(cart, idle)[1]]
[((1, 1),), ((1, 1), (-2, 1)), True, False, None, ()]
>>> four_answers(cart, hand)
((((0, 1), (2, 1)), ((1, 1),)), (((2, 1), (-4, 1)), ((1, 1),)), (((0, 1), (1, 1)), ((1, 1),)), (((0, 1), (-2, 1)), ((1, 1),)))
>>> step, silent = ((one,), (one, less)), ((), (one,))
>>> [shown(cart, hand, step, silent, (), ()), shown(cart, hand, silent, silent, (one,), ()), last_beat(cart, hand), last_beat(cart, idle), fewest_beats(cart), fewest_beats(back), fewest_beats(stuck)]
[((((0, 1), (2, 1)), ((1, 1), (-1, 1))), (((2, 1), (-4, 1)), ((1, 1), (-1, 1)))), ((((1, 1),), ((1, 1),)), (((-2, 1),), ((1, 1),))), 1, None, 1, 3, None]
>>> from allhelms.helms import base_helm, free_answer, helm_of, is_steady_helm, least_helm
>>> sure = helm_of(cart, ((one,), (one,)))
>>> [base_helm(cart), base_helm(back), sure, free_answer(cart, sure), free_answer(cart, hand), is_steady_helm(sure), least_helm(cart, (one, (-1, 2))), least_helm(stuck, (one,))]
[(((2, 1),), ((1, 1),)), (((-1, 1),), ((1, 1), (2, 1))), (((3, 1), (-2, 1)), ((1, 1), (-1, 1))), (((1, 1),), ((1, 1),)), ((), ((1, 1),)), False, (((3, 2),), ((1, 1),)), None]
>>> base_helm(stuck)
raises NoHelm()
>>> free_answer(cart, idle)
raises NotSteady()
>>> from allhelms.rules import can_follow, follows, following_helm, rule_left, unfollowed_start
>>> keep, deaf = (one, less), ((nil, one, less), (one, (-2, 1)))
>>> [follows(cart, hand, keep), follows(cart, sure, keep), unfollowed_start(cart, hand, keep) == (), unfollowed_start(cart, sure, keep), can_follow(cart, keep), can_follow(deaf, keep), following_helm(deaf, keep)]
[False, True, False, None, True, False, None]
>>> [rule_left(cart, keep), rule_left(back, keep), follows(back, base_helm(back), keep), can_follow(stuck, keep)]
[((1, 1), (-1, 1)), ((1, 1),), True, False]
>>> follows(cart, idle, keep)
raises NotSteady()
"""

STAGE_THREE = """
>>> from allhelms.limits import error_answer, fixed_sum, helm_with_error, helm_with_sum, is_error, least_dip, least_peak
>>> [error_answer(cart, hand), is_error(cart, ((one, (-2, 1)), (one,))), is_error(cart, ((one,), (one,))), helm_with_error(cart, ((one, (-2, 1)), (one,))) == hand, helm_with_error(stuck, ((one,), (one,)))]
[(((1, 1), (-2, 1)), ((1, 1),)), True, False, True, None]
>>> [fixed_sum(cart, half), fixed_sum(cart, one), fixed_sum(back, half), fixed_sum(back, one), helm_with_sum(cart, half, one), is_steady_loop(cart, helm_with_sum(cart, one, nil)), least_dip(back, half, 2, nil), least_dip(back, half, 3, half), least_peak(cart, half)]
[(0, 1), None, (1, 1), (0, 1), None, True, (1, 1), (1, 6), (2, 1)]
>>> least_peak(back, half)
raises NotAZero(given=(1, 2))
>>> from allhelms.worst import is_bound, worst_near, worst_row
>>> fade, kick = ((one,), (one, (-1, 2))), ((nil, two, (-3, 1)), (one,))
>>> low, high = worst_near(fade, 100)
>>> [low[0] <= 2 * low[1], high[0] >= 2 * high[1], 100 * (high[0] * low[1] - low[0] * high[1]) <= low[1] * high[1], worst_near(kick, 1), worst_near(((), (one,)), 5)]
[True, True, True, ((5, 1), (5, 1)), ((0, 1), (0, 1))]
>>> [is_bound(fade, (6, 5), two, (one, half)), is_bound(fade, (5, 4), two, (one, half)), is_bound(fade, one, (19, 10), (one, half)), is_bound(fade, nil, (9, 1), (one, one)), is_bound(kick, (5, 1), (5, 1), (one,)), is_bound(fade, low, high, 7)]
[True, False, False, False, True, False]
>>> len(worst_row(fade, 100)) > 0
True
>>> worst_near(((one,), (one, less)), 7)
raises NotSteady()
>>> from allhelms.least import are_weights, calmest_helm, is_told, least_row, least_worst, told_zeros, worst_weights
>>> shy, odd = ((nil, one, (-4, 1)), (one, (-2, 1))), ((nil, one, (-4, 3)), (one, (-2, 1)))
>>> [is_told(cart), is_told(back), is_told(stuck), told_zeros(cart), told_zeros(shy), least_worst(cart), least_row(cart), worst_weights(cart), calmest_helm(cart) == hand]
[True, False, False, ((1, 2),), ((1, 4), (1, 2)), (2, 1), ((0, 1), (2, 1)), ((2, 1),), True]
>>> [least_worst(shy), least_row(shy), worst_weights(shy), calmest_helm(shy)]
[(10, 1), ((0, 1), (-2, 1), (8, 1)), ((-24, 1), (10, 1)), (((-2, 1),), ((1, 1), (4, 1)))]
>>> [least_worst(odd), least_row(odd), worst_weights(odd)]
[(182, 19), ((0, 1), (54, 19), (0, 1), (0, 1), (-128, 19)), ((182, 19), (-96, 19))]
>>> [are_weights(shy, ((0, 1), (2, 1))), are_weights(shy, ((0, 1), (3, 1))), are_weights(shy, ((2, 1),))]
[True, False, False]
>>> least_worst(back)
raises NotTold()
>>> least_worst(stuck)
raises NoHelm()
>>> from allhelms.parity import difference_of, has_steady_helm, is_parting, one_for_both, parting_of_both, parting_stretch
>>> [has_steady_helm(cart), has_steady_helm(shy), has_steady_helm(odd), parting_stretch(shy), is_parting(odd, parting_stretch(odd))]
[True, True, False, None, True]
>>> [is_parting(odd, ((3, 4), (3, 4))), is_parting(odd, ((5, 8), one)), is_parting(odd, (half, one)), is_parting(odd, ((7, 8), one)), is_parting(odd, (one, (3, 4)))]
[True, True, False, False, False]
>>> turned, twin = ((nil, less), (one, (-2, 1))), ((nil, one), (one, two))
>>> [difference_of(cart, turned), difference_of(cart, twin), difference_of(cart, cart)]
[(((0, 1), (2, 1), (-4, 1)), ((1, 1), (-4, 1))), (((0, 1), (0, 1), (4, 1)), ((1, 1), (4, 1))), ((), ((1, 1),))]
>>> [one_for_both(cart, turned), one_for_both(cart, twin), one_for_both(cart, cart), parting_of_both(cart, twin), is_parting(difference_of(cart, turned), parting_of_both(cart, turned))]
[False, True, True, None, True]
>>> has_steady_helm(stuck)
raises NoHelm()
"""

STAGE_FOUR = """
>>> from allhelms.consoles import Console
>>> from allhelms.workshops import Workshop
>>> from allhelms.checker import accepts
>>> from allhelms.certificates import certify_bends, certify_loop
>>> nil, one, two, less = (0, 1), (1, 1), (2, 1), (-1, 1)
>>> cart, hand, idle = ((nil, one), (one, (-2, 1))), ((two,), (one,)), ((), (one,))
>>> shop = Workshop()
>>> console = Console(shop)
>>> [console.say("machine cart: 0/1 1/1; 1/1 -2/1"), console.say("helm hand: 2/1; 1/1"), console.say("show hand"), console.say("close cart hand"), console.say("steady cart hand"), console.say("names")]
['done', 'done', 'helm 2/1; 1/1', '1/1', 'yes', 'cart hand']
>>> shop.wish(("steady", "cart", "hand"))
>>> console.say("helm hand: -; 1/1")
raises Broken(index=0)
>>> [shop.named("hand") == ("helm", hand), len(shop), shop.wishes, certify_loop(cart, hand), certify_bends((one, (-1, 2)))]
[True, 3, (('steady', 'cart', 'hand'),), (('loop steady', (((0, 1), (1, 1)), ((1, 1), (-2, 1))), (((2, 1),), ((1, 1),))), ()), (('bends', ((1, 1), (-1, 2)), ((-1, 2),)), ())]
>>> [accepts(("loop steady", cart, idle), ()), accepts(("unsteady", (one, (-2, 1))), ()), accepts(("can be steadied", cart), hand), accepts(("can be steadied", cart), idle)]
[False, True, True, False]
"""


class Examples(unittest.TestCase):

    def setUp(self):
        # Later examples speak of what earlier ones name.
        self.names = {}

    def follow(self, text):
        """Run the lines behind `>>>`; the line behind each list or call is its answer."""
        names = self.names
        lines = [line for line in text.split("\n") if line]
        for at, line in enumerate(lines):
            if not line.startswith(">>> "):
                continue
            code = line[4:]
            answer = lines[at + 1] if at + 1 < len(lines) else ">>> "
            with self.subTest(line=code):
                if answer.startswith(">>> "):
                    exec(code, names)
                elif answer.startswith("raises "):
                    self.check_error(code, names, answer[len("raises "):])
                else:
                    # By their texts, as True is equal to 1.
                    self.assertEqual(repr(eval(code, names)), repr(eval(answer)))

    def check_error(self, code, names, answer):
        told = eval(answer, vars(allhelms.errors).copy())
        with self.assertRaises(type(told)) as caught:
            eval(code, names)
        self.assertIs(type(caught.exception), type(told))
        self.assertEqual(vars(caught.exception), vars(told))

    def test_examples(self):
        for text in (STAGE_ONE, STAGE_TWO, STAGE_THREE, STAGE_FOUR):
            self.follow(text)


if __name__ == "__main__":
    unittest.main()

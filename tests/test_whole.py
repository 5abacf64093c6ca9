"""The whole program: a session in which workshop, console, certificates and checker agree with all the rest."""

import unittest
from fractions import Fraction

from allhelms import certificates
from allhelms.answers import answer_product, answer_sum
from allhelms.certificates import (certify_both, certify_closing, certify_error, certify_follows, certify_free,
                                   certify_least, certify_loop, certify_machine, certify_over, certify_rule,
                                   certify_steady_helm, certify_sum, certify_worst)
from allhelms.checker import accepts
from allhelms.consoles import Console
from allhelms.errors import Broken, HelmError
from allhelms.helms import base_helm, free_answer, helm_of, is_steady_helm
from allhelms.least import calmest_helm, least_row, least_worst
from allhelms.limits import error_answer, fixed_sum, helm_with_error, helm_with_sum
from allhelms.loops import closing_row, four_answers, is_steady_loop, last_beat
from allhelms.machines import can_be_steadied, core_of, same_helm
from allhelms.parity import difference_of, has_steady_helm, one_for_both
from allhelms.rules import can_follow, following_helm, follows
from allhelms.workshops import Workshop
from allhelms.worst import worst_near
from tests.things import CART, CORES, HAND, HELMS, HIDING, KEEP, MACHINES, RULES, SHY
from tests.tools import HALF, ONE, SLOW, pair, plain, row

LESS_ONE = (row(-1), row(1))
UNIT = (row(1), row(1))


def name_of(at):
    """A name for each number below 676."""
    return "abcdefghijklmnopqrstuvwxyz"[at // 26] + "abcdefghijklmnopqrstuvwxyz"[at % 26]


def text(value):
    """The text of a row."""
    return " ".join(f"{number.numerator}/{number.denominator}" for number in plain(value)) if value else "-"


class Session(unittest.TestCase):

    def setUp(self):
        self.shop = Workshop()
        self.console = Console(self.shop)
        self.machines, self.helms = {}, {}
        for at, machine in enumerate(MACHINES):
            self.machines["m" + name_of(at)] = machine
            self.console.say(f"machine m{name_of(at)}: {text(machine[0])}; {text(machine[1])}")
        for at, helm in enumerate(HELMS):
            self.helms["h" + name_of(at)] = helm
            self.console.say(f"helm h{name_of(at)}: {text(helm[0])}; {text(helm[1])}")

    def test_names_and_things(self):
        self.assertEqual(self.console.say("names"), " ".join(sorted(list(self.machines) + list(self.helms))))
        self.assertEqual(len(self.shop), len(self.machines) + len(self.helms))
        for name, thing in list(self.machines.items()) + list(self.helms.items()):
            self.assertEqual(self.shop.named(name)[1], thing)

    def test_loops(self):
        for name, machine in self.machines.items():
            for other, helm in self.helms.items():
                steady = is_steady_loop(machine, helm)
                self.assertEqual(self.console.say(f"steady {name} {other}"), "yes" if steady else "no")
                self.assertEqual(self.console.say(f"close {name} {other}"), text(closing_row(machine, helm)))
                self.wished(("steady", name, other), steady)
                claim, paper = certify_loop(machine, helm)
                self.assertEqual(claim[0] == "loop steady", steady)
                self.assertIs(accepts(claim, paper), True)

    def wished(self, wish, wanted):
        """The wish is taken just if it holds, and leads back."""
        before = len(self.shop), self.shop.wishes
        if wanted:
            self.shop.wish(wish)
            self.assertEqual(self.shop.wishes[-1], wish)
            self.assertEqual(self.console.say("undo"), "done")
        else:
            with self.assertRaises(Broken):
                self.shop.wish(wish)
        self.assertEqual((len(self.shop), self.shop.wishes), before)

    def test_rules_and_steady_helms(self):
        for name, machine in list(self.machines.items())[::2]:
            self.wished(("steady helm", name), can_be_steadied(machine) and has_steady_helm(machine))
            for other, helm in self.helms.items():
                for rule in RULES[:4]:
                    steady = is_steady_loop(machine, helm)
                    wanted = steady and follows(machine, helm, rule)
                    self.wished(("follows", name, other, rule), wanted)
                    self.assertIs(accepts(("follows", machine, helm, rule), ()), wanted)
                    if steady:
                        self.assertEqual(certify_follows(machine, helm, rule)[0][0] == "follows", wanted)
                        self.assertIs(can_follow(machine, rule) or not wanted, True)

    def test_a_workshop_kept_by_wishes(self):
        shop, console = Workshop(), Console(Workshop())
        shop.put_machine("cart", CART)
        shop.put_helm("hand", HAND)
        shop.wish(("steady", "cart", "hand"))
        shop.wish(("quick", "cart", "hand", (1, 100)))

        def exchange(held):
            held.lift(1)
            held.put_helm("hand", following_helm(CART, KEEP))
            held.wish(("follows", "cart", "hand", KEEP))
            held.put_helm("hand", HAND)

        with self.assertRaises(Broken):
            shop.tried(exchange)
        self.assertEqual(shop.named("hand"), ("helm", HAND))
        self.assertEqual(len(shop.wishes), 2)
        self.assertEqual(console.say("names"), "none")
        for wish in shop.wishes:
            self.assertIs(accepts(("loop steady", CART, shop.named(wish[2])[1]), ()), True)


class Agreement(unittest.TestCase):
    """What one file tells goes with what the others tell."""

    def test_all_that_is_told_of_a_helm(self):
        for machine in CORES + HIDING[::4]:
            for free in (((), row(1)), UNIT, (row(2, 1), SLOW), (row(10 ** 30), row(1))):
                helm = helm_of(machine, free)
                self.assertEqual(free_answer(machine, helm), free)
                shows = four_answers(machine, helm)[0]
                error = error_answer(machine, helm)
                self.assertEqual(answer_sum(shows, error), UNIT)
                self.assertEqual(answer_sum(UNIT, answer_product(LESS_ONE, error)), shows)
                self.assertIs(same_helm(helm_with_error(machine, error), helm), True)
                self.assertIs(is_steady_helm(helm) and not has_steady_helm(machine), False)
                for value in (certify_loop(machine, helm), certify_free(machine, helm), certify_error(machine, error)):
                    self.assertIs(accepts(*value), True)

    def test_all_that_is_told_of_a_machine(self):
        for machine in MACHINES:
            told = [certify_machine(machine), certify_over(machine), certify_closing(machine, SLOW),
                    certify_rule(machine, KEEP)]
            if can_be_steadied(machine):
                told += [certify_steady_helm(machine), certify_sum(machine, HALF, ONE), certify_both(machine, CART)]
                self.assertIs(one_for_both(machine, machine), True)
                self.assertEqual(difference_of(machine, machine)[0], ())
                self.assertIs(one_for_both(machine, core_of(machine)), True)
                helm = base_helm(machine)
                self.assertIs(last_beat(core_of(machine), helm) is not None, True)
                if fixed_sum(machine, HALF) is None:
                    self.assertIs(is_steady_loop(machine, helm_with_sum(machine, HALF, (7, 9))), True)
            for claim, paper in told:
                self.assertIs(accepts(claim, paper), True)

    def test_the_least_worst_is_a_worst(self):
        for machine in (CART, SHY):
            shows = four_answers(machine, calmest_helm(machine))[0]
            self.assertEqual(shows, (least_row(machine), row(1)))
            self.assertEqual(worst_near(shows, 1), (least_worst(machine), least_worst(machine)))
            claim, paper = certify_worst(shows, 1)
            self.assertEqual(claim[2:], (least_worst(machine),) * 2)
            self.assertIs(accepts(claim, paper), True)
            self.assertIs(accepts(*certify_least(machine)), True)
            worse = pair(Fraction(*least_worst(machine)) + 1)
            self.assertEqual(worst_near(error_answer(machine, calmest_helm(machine)), 1), (worse, worse))

    def test_fourteen_certificates(self):
        told = [name for name, value in vars(certificates).items()
                if name.startswith("certify_") and value.__module__ == "allhelms.certificates"]
        self.assertEqual(len(told), 14)

    def test_errors_change_nothing(self):
        shop = Workshop()
        shop.put_machine("cart", CART)
        for action in (lambda held: held.put_helm("cart", CART[:1]), lambda held: held.drop("hand"),
                       lambda held: held.wish(("steady", "cart", "hand")), lambda held: held.lift(0)):
            with self.assertRaises(HelmError):
                action(shop)
            self.assertEqual((len(shop), shop.names, shop.wishes), (1, ("cart",), ()))


if __name__ == "__main__":
    unittest.main()

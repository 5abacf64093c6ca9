"""Consoles: the forms of lines, their answers, and what is refused."""

import unittest
from fractions import Fraction

from allhelms.consoles import Console
from allhelms.errors import (Broken, InUse, InvalidHelm, InvalidMachine, InvalidPhrase, NotAWorkshop, NothingToUndo,
                             UnknownName)
from allhelms.loops import closing_row, is_steady_loop
from allhelms.machines import is_helm, is_machine
from allhelms.workshops import Workshop
from tests.checks import ErrorCase
from tests.things import BACK, CART, HAND, HELMS, IDLE, KEEP, MACHINES
from tests.tools import NO_TUPLES, deep, plain, row


def text(value):
    """The text of a row."""
    return " ".join(f"{number.numerator}/{number.denominator}" for number in plain(value)) if value else "-"


def texts(pair):
    """The text of a machine or a helm."""
    return text(pair[0]) + "; " + text(pair[1])


CART_TEXT, HAND_TEXT, IDLE_TEXT = "0/1 1/1; 1/1 -2/1", "2/1; 1/1", "-; 1/1"

NO_TEXTS = [
    "", " ", "-", ";", "; ", "2/1", "2/1;1/1", "2/1 ; 1/1", "2/1;  1/1", "2/1; 1/1 ", " 2/1; 1/1", "2/1; 1/1;",
    "2/1; 1/1; ",
    "2/1; 1/1; 1/1", "2/1  1/1; 1/1", "2/1; 1/1  1/1", "2/1\t1/1; 1/1", "2/1, 1/1; 1/1", "2/1: 1/1", "2/1; 1/1: 1/1",
    "4/2; 1/1", "2/1; 2/2", "0/2 1/1; 1/1", "+2/1; 1/1", "2/+1; 1/1", "02/1; 1/1", "2/01; 1/1", "-0/1 1/1; 1/1",
    "00/1 1/1; 1/1",
    "2/-1; 1/1", "-2/-1; 1/1", "2/0; 1/1", "0/0; 1/1", "2; 1/1", "2/1; 1", "2/1/1; 1/1", "/1; 1/1", "2/; 1/1",
    "/; 1/1", "--2/1; 1/1",
    "2.0/1; 1/1", "2/1.0; 1/1", "2e0/1; 1/1", "0x2/1; 1/1", "1_0/1; 1/1", "2 /1; 1/1", "2/ 1; 1/1", "a/b; 1/1",
    "two; 1/1",
    "2/1 0/1; 1/1", "0/1; 1/1", "2/1; 1/1 0/1", "2/1; 0/1", "2/1; -", "2/1; 2/1", "2/1; -1/1", "2/1; 0/1 1/1",
    "2/1; ", "; 1/1",
    "- ; 1/1", "-; 1/1 ", "- -; 1/1", "- 1/1; 1/1", "1/1 -; 1/1", "--; 1/1", "(); 1/1", "-2/2; 1/1", "None; 1/1",
]
NO_MACHINE_TEXTS = NO_TEXTS + ["-; 1/1", "1/1; 1/1", "2/1; 1/1", "2/1 1/1; 1/1", "-1/1 1/1; 1/1 -2/1"]

NO_LINES = [value for value in NO_TUPLES if not isinstance(value, str)] + [
    b"undo", ["undo"], ("undo",), 7, deep(14), "", " ", "row", "Undo", "UNDO", " undo", "undo ", "undo  ", "undo a",
    "undo: ",
    "undo\n", "names ", " names", "names a", "Names", "name", "drop", "drop ", "drop  cart", "drop cart ", " drop cart",
    "drop cart hand", "drop Cart", "drop car7", "drop abcdefghijklm", "Drop cart", "drop: cart", "drop cart: ", "show",
    "show ", "show  cart", "show cart ", "show cart hand", "show Cart", "show -", "show: cart", "close", "close cart",
    "close cart ", "close cart hand ", "close  cart hand", "close cart  hand", "close cart hand hand",
    "close Cart hand",
    "close cart Hand", "Close cart hand", "close cart: hand", "steady", "steady cart", "steady cart hand hand",
    "steady cart Hand", "steady Cart hand", "steady cart  hand", "steady helm cart 1", "machine", "machine ",
    "machine cart",
    "machine cart:", "machine cart: ", "machine cart:0/1 1/1; 1/1", "machine cart : 0/1 1/1; 1/1",
    "machine cart:  0/1 1/1; 1/1", "machine  cart: 0/1 1/1; 1/1", " machine cart: 0/1 1/1; 1/1",
    "machine Cart: 0/1 1/1; 1/1", "machine : 0/1 1/1; 1/1", "machine: 0/1 1/1; 1/1", "machine cart hand: 0/1 1/1; 1/1",
    "machine abcdefghijklm: 0/1 1/1; 1/1", "Machine cart: 0/1 1/1; 1/1", "helm", "helm hand", "helm hand:",
    "helm hand: ",
    "helm hand:2/1; 1/1", "helm Hand: 2/1; 1/1", "helm: 2/1; 1/1", "helm hand; 2/1: 1/1", "wish cart: 2/1; 1/1",
    "undo: 2/1; 1/1", "show cart: 2/1; 1/1", ": 2/1; 1/1", ": ", "2/1; 1/1", "put hand: 2/1; 1/1", "help", "quit",
    "trial",
]


class Pretender:
    """Says that its class is that of workshops."""

    __class__ = Workshop


class Lines(unittest.TestCase):

    def setUp(self):
        self.shop = Workshop()
        self.console = Console(self.shop)

    def say(self, line):
        """The answer of a line, by position and by name the same kind of thing."""
        told = self.console.say(line)
        self.assertIs(type(told), str)
        return told

    def test_things_put_and_shown(self):
        for machine in MACHINES:
            self.assertEqual(self.say("machine cart: " + texts(machine)), "done")
            self.assertEqual(self.shop.named("cart"), ("machine", machine))
            self.assertEqual(self.say("show cart"), "machine " + texts(machine))
        for helm in HELMS + MACHINES:
            self.assertEqual(self.say("helm cart: " + texts(helm)), "done")
            self.assertEqual(self.shop.named("cart"), ("helm", helm))
            self.assertEqual(self.say("show cart"), "helm " + texts(helm))
        self.assertEqual(len(self.shop), 2 * len(MACHINES) + len(HELMS))

    def test_loops(self):
        for machine in MACHINES[::3]:
            self.shop.put_machine("a", machine)
            for helm in HELMS:
                self.shop.put_helm("b", helm)
                self.assertEqual(self.say("close a b"), text(closing_row(machine, helm)))
                self.assertEqual(self.say("steady a b"), "yes" if is_steady_loop(machine, helm) else "no")

    def test_names_drop_and_undo(self):
        self.assertEqual(self.say("names"), "none")
        self.assertEqual(self.say("machine z: " + CART_TEXT), "done")
        self.assertEqual(self.say("names"), "z")
        self.assertEqual(self.say("helm abcdefghijkl: " + IDLE_TEXT), "done")
        self.assertEqual(self.say("helm none: " + HAND_TEXT), "done")
        self.assertEqual(self.say("names"), "abcdefghijkl none z")
        self.assertEqual(self.say("drop none"), "done")
        self.assertEqual(self.shop.names, ("abcdefghijkl", "z"))
        self.assertEqual(self.say("undo"), "done")
        self.assertEqual(self.say("names"), "abcdefghijkl none z")
        for _ in range(3):
            self.assertEqual(self.say("undo"), "done")
        self.assertEqual(self.say("names"), "none")
        self.assertEqual(len(self.shop), 0)

    def test_by_name(self):
        console = Console(shop=self.shop)
        self.assertEqual(console.say(line="helm a: " + IDLE_TEXT), "done")
        self.assertEqual(console.say(line="show a"), "helm " + IDLE_TEXT)

    def test_the_workshop_beside_it(self):
        other = Console(self.shop)
        self.say("machine cart: " + CART_TEXT)
        self.shop.put_helm("hand", HAND)
        self.assertEqual(other.say("close cart hand"), "1/1")
        self.assertEqual(self.say("steady cart hand"), "yes")
        self.shop.put_machine("cart", BACK)
        self.assertEqual(self.say("show cart"), "machine 0/1 1/1 -2/1; 1/1 -1/1")
        with self.assertRaises(ValueError), self.shop.trial():
            other.say("drop cart")
            self.assertEqual(self.say("names"), "hand")
            raise ValueError
        self.assertEqual(self.say("names"), "cart hand")
        self.assertEqual(len(self.shop), 3)
        self.assertIs(bool(self.console), True)
        self.assertNotEqual(self.console, other)

    def test_vast_and_negative_numbers(self):
        vast = (row(0, Fraction(-10 ** 40, 3)), row(1, Fraction(1, 10 ** 40)))
        self.assertEqual(self.say("machine a: 0/1 -1" + "0" * 40 + "/3; 1/1 1/1" + "0" * 40), "done")
        self.assertEqual(self.shop.named("a"), ("machine", vast))
        self.assertEqual(self.say("show a"), "machine 0/1 -1" + "0" * 40 + "/3; 1/1 1/1" + "0" * 40)


class Refusals(ErrorCase):

    def setUp(self):
        self.shop = Workshop()
        self.console = Console(self.shop)
        self.shop.put_machine("cart", CART)
        self.shop.put_helm("hand", HAND)
        self.shop.put_helm("idle", IDLE)
        self.shop.wish(("steady", "cart", "hand"))

    def tearDown(self):
        self.assertEqual(len(self.shop), 4)
        self.assertEqual(self.shop.names, ("cart", "hand", "idle"))
        self.assertEqual(self.shop.wishes, (("steady", "cart", "hand"),))
        self.assertEqual([self.shop.named(name)[1] for name in self.shop.names], [CART, HAND, IDLE])

    def test_no_workshops(self):
        for value in NO_TUPLES + [Workshop, self.console, deep(14), ("cart",), Pretender()]:
            self.fails_given(NotAWorkshop, value, Console, value)
            self.fails_given(NotAWorkshop, value, Console, shop=value)

    def test_no_lines(self):
        for line in NO_LINES:
            with self.subTest(line=line):
                self.fails_given(InvalidPhrase, line, self.console.say, line)
                self.fails_given(InvalidPhrase, line, self.console.say, line=line)

    def test_texts_of_nothing(self):
        for word, lines in (("helm hand: ", NO_TEXTS), ("machine cart: ", NO_MACHINE_TEXTS), ("helm new: ", NO_TEXTS),
                            ("machine hand: ", NO_MACHINE_TEXTS)):
            for told in lines:
                line = word + told
                with self.subTest(line=line):
                    self.fails_given(InvalidPhrase, line, self.console.say, line)

    def test_which_texts_are_right(self):
        # What is refused for a machine alone may be a helm.
        shop = Workshop()
        for told in NO_MACHINE_TEXTS[len(NO_TEXTS):]:
            Console(shop).say("helm a: " + told)
            self.assertTrue(is_helm(shop.named("a")[1]))
            self.assertFalse(is_machine(shop.named("a")[1]))

    def test_errors_of_the_workshop(self):
        for line in ("drop cart", "drop hand"):
            with self.assertRaises(InUse) as caught:
                self.console.say(line)
            self.assertEqual(caught.exception.index, 0)
        for line in ("helm hand: " + IDLE_TEXT, "machine hand: " + CART_TEXT, "helm cart: " + HAND_TEXT,
                     "machine cart: 0/1 1/1; 1/1 7/1"):
            with self.assertRaises(Broken) as caught:
                self.console.say(line)
            self.assertEqual(caught.exception.index, 0)
        for line in ("drop car", "show car"):
            with self.assertRaises(UnknownName) as caught:
                self.console.say(line)
            self.assertEqual(caught.exception.given, "car")
        with self.assertRaises(NothingToUndo):
            Console(Workshop()).say("undo")

    def test_names_of_the_other_sort(self):
        for word in ("close", "steady"):
            for names, error, given in (
                    ("car hand", UnknownName, "car"), ("cart han", UnknownName, "han"), ("car han", UnknownName, "car"),
                    ("hand han", UnknownName, "han"), ("car cart", UnknownName, "car"),
                    ("hand hand", InvalidMachine, HAND),
                    ("hand cart", InvalidMachine, HAND), ("idle cart", InvalidMachine, IDLE),
                    ("cart cart", InvalidHelm, CART)):
                with self.assertRaises(error) as caught:
                    self.console.say(word + " " + names)
                self.assertIs(type(caught.exception), error)
                self.assertEqual(caught.exception.given, given)

    def test_the_form_comes_first(self):
        for line in ("drop Car", "show car hand", "close car", "steady car Han", "machine car: 0/1; 1/1",
                     "helm car: 2/2; 1/1"):
            self.fails_given(InvalidPhrase, line, self.console.say, line)


class ByHand(unittest.TestCase):

    def test_a_session(self):
        console = Console(Workshop())
        session = [("machine cart: 0/1 1/1; 1/1 -2/1", "done"), ("helm hand: 2/1; 1/1", "done"),
                   ("show hand", "helm 2/1; 1/1"),
                   ("close cart hand", "1/1"), ("steady cart hand", "yes"), ("names", "cart hand"),
                   ("helm idle: -; 1/1", "done"), ("close cart idle", "1/1 -2/1"), ("steady cart idle", "no"),
                   ("helm half: -1/2; 1/1 -1/3 0/1 5/7", "done"), ("show half", "helm -1/2; 1/1 -1/3 0/1 5/7"),
                   ("drop half", "done"), ("undo", "done"), ("names", "cart half hand idle"),
                   ("show idle", "helm -; 1/1")]
        for line, answer in session:
            self.assertEqual(console.say(line), answer)
        self.assertEqual(texts((row(3, -2), KEEP)), "3/1 -2/1; 1/1 -1/1")


if __name__ == "__main__":
    unittest.main()

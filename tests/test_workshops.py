"""Workshops: names, things and wishes, what is refused and what is taken back."""

import random
import unittest
from fractions import Fraction

from allhelms.errors import (Broken, HelmError, InUse, InvalidHelm, InvalidIndex, InvalidMachine, InvalidName,
                             InvalidWish, NotSteady, NothingToUndo, UnknownName)
from allhelms.loops import closing_row, is_steady_loop
from allhelms.machines import can_be_steadied
from allhelms.parity import has_steady_helm
from allhelms.rules import follows
from allhelms.steady import is_quick
from allhelms.workshops import Workshop
from tests.checks import ErrorCase
from tests.things import (BACK, CART, DEAF, HAND, HELMS, IDLE, KEEP, MACHINES, NO_HELMS, NO_MACHINES, NO_RULES, ODD,
                          RULES, SHY, STUCK, grown)
from tests.tools import (HALF, LESS, NIL, NO_FRACTIONS, NO_TUPLES, ONE, SLOW, TWO, WILD, Liar, deep, row)

SURE = (row(3, -2), KEEP)
TRAIL = (row(Fraction(3, 2)), row(1))
BACKING = (row(-1), row(1, 2))
STILL = (row(0, Fraction(1, 2)), row(1))

NO_NAMES = [value for value in NO_TUPLES if value != "row"] + [
    "", "A", "Cart", "cart ", " cart", "ca rt", "cart1", "1", "a-b", "a" * 13, "caf\u00e9", "\u00e4", "a\n", "{", "`",
    ("cart",), ["cart"], b"cart", 7, deep(14), ("a", "b")]
NAMES = ["a", "z", "cart", "abcdefghijkl", "none", "machine", "zzzzzzzzzzzz"]


def told(shop):
    """All that a workshop tells of itself."""
    return (len(shop), shop.names, shop.wishes, [shop.named(name) for name in shop.names])


def full():
    """A workshop with things and a wish of each form."""
    shop = Workshop()
    shop.put_machine("cart", CART)
    shop.put_machine("odd", ODD)
    shop.put_helm("hand", HAND)
    shop.put_helm("sure", SURE)
    shop.put_helm("idle", IDLE)
    for wish in FULL_WISHES:
        shop.wish(wish)
    return shop


FULL_WISHES = [("steady", "cart", "hand"), ("quick", "cart", "hand", HALF), ("follows", "cart", "sure", KEEP),
               ("steady helm", "cart")]

NO_WISHES = NO_TUPLES + [
    (), ("steady",), ("steady", "cart"), ("steady", "cart", "hand", "hand"), ["steady", "cart", "hand"],
    ("Steady", "cart", "hand"), ("steady ", "cart", "hand"), ("", "cart", "hand"), (1, "cart", "hand"),
    (None, "cart", "hand"), (("steady",), "cart", "hand"), (Liar(), "cart", "hand"), ("steady", "Cart", "hand"),
    ("steady", "cart", "hand2"), ("steady", "", "hand"), ("steady", "cart", ""), ("steady", "cart", "a" * 13),
    ("steady", None, "hand"), ("steady", "cart", None), ("steady", ["cart"], "hand"), ("steady", Liar(), "hand"),
    ("steady", "cart", ("hand",)), ("quick", "cart", "hand"), ("quick", "cart", "hand", HALF, HALF),
    ("quick", "cart", "hand", NIL), ("quick", "cart", "hand", (3, 2)), ("quick", "cart", "hand", (-1, 2)),
    ("quick", "cart", "hand", (2, 4)), ("quick", "cart", "hand", 1), ("quick", "cart", "hand", TWO),
    ("quick", "Cart", "hand", HALF), ("quick", "cart", "ha nd", HALF), ("follows", "cart", "hand"),
    ("follows", "cart", "hand", row(1)), ("follows", "cart", "hand", ()), ("follows", "cart", "hand", row(2, 1)),
    ("follows", "cart", "hand", HALF), ("follows", "cart", "hand", KEEP, KEEP), ("follows", "cArt", "hand", KEEP),
    ("steady helm",), ("steady helm", "cart", "hand"), ("steady helm", "Cart"), ("steady helm", ""),
    ("steady helm", None), ("steadyhelm", "cart"), ("steady", "helm", "cart", "hand"), deep(14), "steady",
    ("s", "t"), ("quick", "cart", "hand", Liar()), ("follows", "cart", "hand", Liar()), ("names",), ("undo",),
] + [("quick", "cart", "hand", value) for value in NO_FRACTIONS] + [("follows", "cart", "hand",
                                                                     value) for value in NO_RULES]


class Refusals(ErrorCase):
    """Each error, their order, and that nothing has changed then."""

    def setUp(self):
        self.shop = full()
        self.before = told(self.shop)

    def refused(self, error, value, call, /, *arguments, **named):
        """The call raises just this error with just this value as `given`, and changes nothing."""
        self.fails_given(error, value, call, *arguments, **named)
        self.assertEqual(told(self.shop), self.before)

    def index(self, error, wanted, call, /, *arguments, **named):
        """The call raises just this error with this index, and changes nothing."""
        with self.assertRaises(error) as caught:
            call(*arguments, **named)
        self.assertIs(type(caught.exception), error)
        self.assertEqual(vars(caught.exception), {"index": wanted})
        self.assertIs(type(caught.exception.index), int)
        self.assertEqual(told(self.shop), self.before)

    def test_names_that_cannot_be(self):
        for name in NO_NAMES:
            with self.subTest(name=name):
                self.refused(InvalidName, name, self.shop.put_machine, name, CART)
                self.refused(InvalidName, name, self.shop.put_helm, name, HAND)
                self.refused(InvalidName, name, self.shop.put_machine, machine=HAND, name=name)
                self.refused(InvalidName, name, self.shop.put_helm, helm=CART, name=name)

    def test_things_that_are_none(self):
        for thing in NO_MACHINES:
            self.refused(InvalidMachine, thing, self.shop.put_machine, "cart", thing)
            self.refused(InvalidMachine, thing, self.shop.put_machine, machine=thing, name="new")
        for thing in NO_HELMS:
            self.refused(InvalidHelm, thing, self.shop.put_helm, "hand", thing)
            self.refused(InvalidHelm, thing, self.shop.put_helm, helm=thing, name="new")
        self.refused(InvalidMachine, HAND, self.shop.put_machine, "cart", HAND)

    def test_broken_by_a_thing(self):
        self.index(Broken, 0, self.shop.put_helm, "hand", IDLE)
        self.index(Broken, 1, self.shop.put_helm, "hand", (row(Fraction(5, 4)), row(1)))
        self.index(Broken, 2, self.shop.put_helm, "sure", HAND)
        self.index(Broken, 0, self.shop.put_machine, "cart", (row(0, 1), row(1, -9)))
        # Of the other sort.
        self.index(Broken, 0, self.shop.put_helm, "cart", HAND)
        self.index(Broken, 0, self.shop.put_machine, name="hand", machine=CART)
        self.index(Broken, 2, self.shop.put_machine, "sure", CART)
        # A steady helm alone is left.
        for _ in range(3):
            self.shop.lift(0)
        self.before = told(self.shop)
        self.index(Broken, 0, self.shop.put_machine, "cart", ODD)
        self.index(Broken, 0, self.shop.put_machine, "cart", STUCK)
        self.index(Broken, 0, self.shop.put_helm, "cart", HAND)

    def test_names_in_use(self):
        self.index(InUse, 0, self.shop.drop, "cart")
        self.index(InUse, 0, self.shop.drop, name="hand")
        self.index(InUse, 2, self.shop.drop, "sure")
        self.shop.lift(0)
        self.before = told(self.shop)
        self.index(InUse, 0, self.shop.drop, "hand")
        self.index(InUse, 1, self.shop.drop, "sure")

    def test_unknown_names(self):
        for name in NO_NAMES + ["car", "carts", "row", "machine", Liar(), deep(14)]:
            self.refused(UnknownName, name, self.shop.drop, name)
            self.refused(UnknownName, name, self.shop.named, name)
            self.refused(UnknownName, name, self.shop.drop, name=name)
            self.refused(UnknownName, name, self.shop.named, name=name)

    def test_no_wishes(self):
        for wish in NO_WISHES:
            with self.subTest(wish=wish):
                self.refused(InvalidWish, wish, self.shop.wish, wish)
                self.refused(InvalidWish, wish, self.shop.wish, wish=wish)

    def test_wishes_with_unknown_names(self):
        for first, second, given in (("ca", "ha", "ca"), ("cart", "ha", "ha"), ("ca", "hand", "ca"),
                                     ("ca", "cart", "ca")):
            for wish in (("steady", first, second), ("quick", first, second, HALF), ("follows", first, second, KEEP)):
                self.refused(UnknownName, given, self.shop.wish, wish)
        self.refused(UnknownName, "ca", self.shop.wish, ("steady helm", "ca"))
        # Behind the form of the whole wish.
        wrong = ("quick", "ca", "ha", (2, 4))
        self.refused(InvalidWish, wrong, self.shop.wish, wrong)
        wrong = ("follows", "ca", "ha", row(1))
        self.refused(InvalidWish, wrong, self.shop.wish, wrong)
        wrong = ("steady", "ca", "Hand")
        self.refused(InvalidWish, wrong, self.shop.wish, wrong)

    def test_wishes_that_do_not_hold(self):
        for wish in (("steady", "cart", "idle"), ("steady", "hand", "cart"), ("steady", "cart", "cart"),
                     ("steady", "hand", "hand"), ("steady", "odd", "hand"), ("quick", "cart", "idle", ONE),
                     ("quick", "hand", "cart", ONE), ("follows", "cart", "hand", KEEP),
                     ("follows", "cart", "idle", SLOW), ("follows", "hand", "sure", KEEP),
                     ("follows", "sure", "cart", KEEP), ("steady helm", "odd"), ("steady helm", "hand")):
            self.index(Broken, 4, self.shop.wish, wish)
            self.index(Broken, 4, self.shop.wish, wish=wish)
        self.shop.put_helm("trail", TRAIL)
        # A machine would do as a helm here, but it is none.
        self.shop.put_machine("still", STILL)
        self.before = told(self.shop)
        for wish in (("steady", "still", "still"), ("quick", "still", "still", ONE), ("follows", "still", "still", SLOW)):
            self.assertIs(is_steady_loop(STILL, STILL), True)
            self.index(Broken, 4, self.shop.wish, wish)
        self.index(Broken, 4, self.shop.wish, ("quick", "cart", "trail", HALF))
        self.shop.wish(("quick", "cart", "trail", (2, 3)))
        self.before = told(self.shop)
        self.index(Broken, 5, self.shop.wish, ("quick", "cart", "trail", (1, 10 ** 40)))

    def test_indexes(self):
        for index in (-1, 4, 5, -4, 10 ** 40, True, False, None, "0", (0,), [0], 0 * 1j, Liar(), deep(14), (1, 1), {}):
            self.refused(InvalidIndex, index, self.shop.lift, index)
            self.refused(InvalidIndex, index, self.shop.lift, index=index)
        for _ in range(4):
            self.shop.lift(0)
        self.before = told(self.shop)
        self.refused(InvalidIndex, 0, self.shop.lift, 0)

    def test_nothing_to_undo(self):
        shop = Workshop()
        self.fails(NothingToUndo, None, None, shop.undo)
        shop.put_helm("a", IDLE)
        shop.undo()
        self.fails(NothingToUndo, None, None, shop.undo)
        self.assertEqual(told(shop), (0, (), (), []))


class Changes(unittest.TestCase):

    def test_empty(self):
        shop = Workshop()
        self.assertEqual(told(shop), (0, (), (), []))
        self.assertIs(bool(shop), True)
        self.assertEqual(shop, shop)
        self.assertNotEqual(shop, Workshop())
        self.assertIs(shop == Workshop(), False)
        self.assertIs(shop != Workshop(), True)
        self.assertIs(shop == (), False)

    def test_names(self):
        shop = Workshop()
        for many, name in enumerate(NAMES):
            self.assertIs(name in shop, False)
            if many % 2:
                self.assertIsNone(shop.put_machine(name, CART))
            else:
                self.assertIsNone(shop.put_helm(helm=HAND, name=name))
            self.assertIs(name in shop, True)
            self.assertEqual(len(shop), many + 1)
        self.assertEqual(shop.names, tuple(sorted(NAMES)))
        self.assertEqual(shop.named("cart"), ("helm", HAND))
        self.assertEqual(shop.named(name="z"), ("machine", CART))
        for value in NO_NAMES + ["car", "row", 10 ** 40, [[]], {"cart": 1}]:
            self.assertIs(value in shop, False)

    def test_in_the_place_of_others(self):
        shop = Workshop()
        shop.put_machine("a", CART)
        shop.put_machine("a", BACK)
        self.assertEqual(shop.named("a"), ("machine", BACK))
        shop.put_helm("a", HAND)
        self.assertEqual(shop.named("a"), ("helm", HAND))
        shop.put_helm("a", HAND)
        self.assertEqual(told(shop), (4, ("a",), (), [("helm", HAND)]))
        shop.undo()
        self.assertEqual(told(shop), (3, ("a",), (), [("helm", HAND)]))
        for many, thing in ((2, ("machine", BACK)), (1, ("machine", CART))):
            shop.undo()
            self.assertEqual(told(shop), (many, ("a",), (), [thing]))
        shop.undo()
        self.assertEqual(told(shop), (0, (), (), []))

    def test_a_pair_may_be_both(self):
        shop = Workshop()
        shop.put_machine("a", CART)
        shop.put_helm("b", CART)
        self.assertEqual([shop.named("a"), shop.named("b")], [("machine", CART), ("helm", CART)])

    def test_wishes(self):
        shop = full()
        self.assertEqual(shop.wishes, tuple(FULL_WISHES))
        self.assertEqual(len(shop), 9)
        self.assertIsNone(shop.wish(FULL_WISHES[0]))
        self.assertEqual(shop.wishes, tuple(FULL_WISHES) + (FULL_WISHES[0],))
        self.assertIsNone(shop.lift(0))
        self.assertEqual(shop.wishes, tuple(FULL_WISHES[1:]) + (FULL_WISHES[0],))
        shop.lift(index=1)
        self.assertEqual(shop.wishes, (FULL_WISHES[1], FULL_WISHES[3], FULL_WISHES[0]))
        shop.lift(2)
        self.assertEqual(shop.wishes, (FULL_WISHES[1], FULL_WISHES[3]))
        self.assertEqual(len(shop), 13)
        for wanted in ((1, 3, 0), (1, 2, 3, 0), (0, 1, 2, 3, 0), (0, 1, 2, 3)):
            shop.undo()
            self.assertEqual(shop.wishes, tuple(FULL_WISHES[at] for at in wanted))

    def test_things_that_keep_the_wishes(self):
        shop = full()
        shop.put_helm("hand", grown(HAND, row(1, Fraction(-1, 3))))
        shop.put_helm("hand", HAND)
        shop.put_machine("cart", CART)
        shop.put_machine("cart", grown(CART, row(1, Fraction(1, 3))))
        self.assertEqual(len(shop), 13)
        for index in (2, 2, 1, 0):
            shop.lift(index)
        self.assertIsNone(shop.drop("hand"))
        self.assertIsNone(shop.drop(name="cart"))
        self.assertEqual(shop.names, ("idle", "odd", "sure"))
        shop.undo()
        self.assertEqual(shop.names, ("cart", "idle", "odd", "sure"))

    def test_back_to_the_beginning(self):
        shop, seen = Workshop(), []
        source = random.Random(3)
        while len(shop) < 60:
            seen.append(told(shop)[1:])
            before = len(shop)
            while len(shop) == before:
                self.some_change(shop, source)
            self.assertEqual(len(shop), before + 1)
        for wanted in reversed(seen):
            shop.undo()
            self.assertEqual(told(shop)[1:], wanted)
        with self.assertRaises(NothingToUndo):
            shop.undo()
        self.assertEqual(told(shop), (0, (), (), []))

    def some_change(self, shop, source):
        """Any change or refusal; the wishes hold behind it."""
        name, other = source.choice("abcd"), source.choice("abcd")
        way = source.randint(0, 7)
        before = told(shop)
        try:
            if way < 2:
                shop.put_machine(name, source.choice(MACHINES))
            elif way < 4:
                shop.put_helm(name, source.choice(HELMS))
            elif way == 4:
                shop.drop(name)
            elif way == 5:
                shop.lift(source.randint(0, 3))
            else:
                shop.wish(source.choice([("steady", name, other), ("quick", name, other, (9, 10)),
                                         ("follows", name, other, source.choice(RULES)), ("steady helm", name)]))
        except HelmError:
            self.assertEqual(told(shop), before)
        self.assertTrue(all(kept(shop, wish) for wish in shop.wishes))

    def test_wishes_hold_after_each_change(self):
        for seed in range(12):
            shop, source = Workshop(), random.Random(seed)
            for _ in range(250):
                self.some_change(shop, source)
            self.assertGreater(len(shop), 30)


def kept(shop, wish):
    """Whether a wish holds, by what the other modules tell."""
    word, first = wish[0], shop.named(wish[1])
    if first[0] != "machine":
        return False
    if word == "steady helm":
        return can_be_steadied(first[1]) and has_steady_helm(first[1])
    second = shop.named(wish[2])
    if second[0] != "helm" or not is_steady_loop(first[1], second[1]):
        return False
    if word == "quick":
        return is_quick(closing_row(first[1], second[1]), wish[3])
    return word == "steady" or follows(first[1], second[1], wish[3])


class Stop(BaseException):
    """Ends a block."""


class Trials(unittest.TestCase):

    def setUp(self):
        self.shop = full()
        self.before = told(self.shop)

    def meddle(self, shop):
        """Several changes, of things and of wishes, and of changes made before."""
        shop.undo()
        shop.undo()
        shop.put_machine("new", DEAF)
        shop.lift(0)
        shop.put_helm("hand", SURE)
        shop.wish(("steady", "cart", "sure"))
        shop.drop("odd")

    def test_that_end_well(self):
        with self.shop.trial() as shop:
            self.assertIs(shop, self.shop)
            self.meddle(shop)
        self.assertEqual(self.shop.names, ("cart", "hand", "idle", "new", "sure"))
        self.assertEqual(self.shop.wishes, (FULL_WISHES[1], ("steady", "cart", "sure")))
        self.assertEqual(len(self.shop), 12)
        self.shop.undo()
        self.assertIn("odd", self.shop)

    def test_that_end_with_exceptions(self):
        for error in (Stop("x"), ValueError("x"), KeyError("x"), KeyboardInterrupt(), SystemExit(1), GeneratorExit(),
                      StopIteration(), UnknownName("x"), Broken(3), NotSteady(), AssertionError(), ZeroDivisionError()):
            with self.assertRaises(type(error)) as caught:
                with self.shop.trial() as shop:
                    self.meddle(shop)
                    raise error
            self.assertIs(caught.exception, error)
            self.assertEqual(told(self.shop), self.before)
        for _ in range(9):
            self.shop.undo()
        with self.assertRaises(NothingToUndo):
            self.shop.undo()

    def test_errors_of_the_package_itself(self):
        with self.assertRaises(Broken) as caught, self.shop.trial():
            self.meddle(self.shop)
            self.shop.put_helm("sure", IDLE)
        self.assertEqual(caught.exception.index, 1)
        self.assertEqual(told(self.shop), self.before)
        with self.assertRaises(NothingToUndo), self.shop.trial():
            while True:
                self.shop.undo()
        self.assertEqual(told(self.shop), self.before)

    def test_errors_that_are_caught_within(self):
        with self.shop.trial():
            with self.assertRaises(InvalidName):
                self.shop.put_helm("", IDLE)
            self.shop.put_helm("new", IDLE)
        self.assertEqual(len(self.shop), 10)

    def test_within_one_another(self):
        with self.shop.trial():
            self.shop.put_helm("one", IDLE)
            kept_so = told(self.shop)
            with self.assertRaises(Stop), self.shop.trial():
                self.meddle(self.shop)
                with self.shop.trial():
                    self.shop.put_helm("two", IDLE)
                raise Stop
            self.assertEqual(told(self.shop), kept_so)
            with self.shop.trial():
                self.shop.put_helm("three", IDLE)
        self.assertEqual(len(self.shop), 11)
        self.assertIn("three", self.shop)
        self.before = told(self.shop)
        with self.assertRaises(Stop), self.shop.trial():
            with self.shop.trial():
                self.meddle(self.shop)
            self.assertNotIn("odd", self.shop)
            raise Stop
        self.assertEqual(told(self.shop), self.before)

    def test_one_trial_more_than_once(self):
        trial = self.shop.trial()
        self.assertEqual(told(self.shop), self.before)
        with trial:
            self.shop.put_helm("one", IDLE)
        for _ in range(2):
            # As it was when the statement began, not when the trial was made.
            with self.assertRaises(Stop), trial:
                self.meddle(self.shop)
                raise Stop
            self.assertEqual(self.shop.names, ("cart", "hand", "idle", "odd", "one", "sure"))
        before = told(self.shop)
        with self.assertRaises(Stop), trial:
            self.shop.put_helm("two", IDLE)
            with trial:
                self.shop.put_helm("three", IDLE)
            raise Stop
        self.assertEqual(told(self.shop), before)

    def test_called_alone(self):
        self.shop.trial()
        self.assertEqual(told(self.shop), self.before)
        self.assertIsNot(self.shop.trial(), self.shop.trial())

    def test_tried(self):
        self.assertEqual(self.shop.tried(lambda shop: (shop.undo(), 7)), (None, 7))
        self.assertEqual(len(self.shop), 8)
        self.shop.wish(FULL_WISHES[3])
        self.assertIsNone(self.shop.tried(action=self.meddle))
        for _ in range(5):
            self.shop.undo()
        self.shop.wish(FULL_WISHES[2])
        self.shop.wish(FULL_WISHES[3])
        self.assertEqual(told(self.shop), self.before)

        def spoil(shop):
            self.assertIs(shop, self.shop)
            self.meddle(shop)
            shop.tried(self.clear)
            raise Stop

        with self.assertRaises(Stop):
            self.shop.tried(spoil)
        self.assertEqual(told(self.shop), self.before)

    def clear(self, shop):
        """Take back all changes."""
        while len(shop):
            shop.undo()

    def test_other_workshops_stay(self):
        other = full()
        with self.assertRaises(Stop), self.shop.trial():
            other.undo()
            raise Stop
        self.assertEqual(len(other), 8)


class ByHand(unittest.TestCase):

    def test_forms_of_wishes(self):
        shop = Workshop()
        shop.put_machine("back", BACK)
        shop.put_helm("slow", BACKING)
        shop.wish(("follows", "back", "slow", KEEP))
        shop.wish(("quick", "back", "slow", (1, 10 ** 40)))
        shop.wish(("quick", "back", "slow", ONE))
        shop.put_machine("shy", SHY)
        shop.wish(("steady helm", "shy"))
        self.assertEqual(len(shop.wishes), 4)
        with self.assertRaises(InvalidWish):
            shop.wish(("quick", "back", "slow", LESS))
        # (1) is quick at each fraction, 1 - 99 / 100 d at those above 99 / 100.
        shop.put_machine("near", (row(0, 1), row(1, Fraction(-99, 100))))
        shop.put_helm("idle", IDLE)
        shop.wish(("quick", "near", "idle", (199, 200)))
        with self.assertRaises(Broken):
            shop.wish(("quick", "near", "idle", (49, 50)))
        self.assertEqual(shop.wishes[-1], ("quick", "near", "idle", (199, 200)))
        self.assertIn("near", shop)
        self.assertNotIn(WILD, shop)


if __name__ == "__main__":
    unittest.main()

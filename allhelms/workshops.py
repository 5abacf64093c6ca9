"""Workshops: they keep machines and helms under names, and wishes that always hold."""

from allhelms.errors import (Broken, InUse, InvalidIndex, InvalidName, InvalidWish, NothingToUndo,
                             UnknownName)
from allhelms.machines import check_helm, check_machine
from allhelms.ratios import is_whole
from allhelms.wishes import HELM, MACHINE, holds, is_name, is_wish, names_of


def check_name(given):
    """Raise InvalidName for what cannot be a name."""
    if not is_name(given):
        raise InvalidName(given)


class Held:
    """What a workshop was when a trial began, and what the trial held before that."""

    def __init__(self, shop, before):
        self.things = shop.things
        self.asked = shop.asked
        self.past = shop.past
        self.before = before


class Trial:
    """Takes back what happened to a workshop within a `with` statement that ends with an exception."""

    def __init__(self, shop):
        self.shop = shop
        self.held = None

    def __enter__(self):
        self.held = Held(self.shop, self.held)
        return self.shop

    def __exit__(self, kind, value, trace):
        shop = self.shop
        if kind is not None:
            shop.things = self.held.things
            shop.asked = self.held.asked
            shop.past = self.held.past
        self.held = self.held.before


class Workshop:
    """Machines and helms under names, and wishes that hold after each change.

    The things, the wishes and the past are never changed, only replaced, so that who
    keeps them keeps the workshop as it was.
    """

    def __init__(self):
        self.things = {}
        self.asked = ()
        self.past = ()

    def __len__(self):
        return len(self.past)

    def __bool__(self):
        return True

    def __contains__(self, x):
        return type(x) is str and x in self.things

    @property
    def names(self):
        """The names, ascending."""
        return tuple(sorted(list(self.things)))

    @property
    def wishes(self):
        """The wishes in the order in which they came."""
        return self.asked

    def put_machine(self, name, machine):
        """Put a machine under a name."""
        check_name(name)
        check_machine(machine)
        self.put_thing(name, MACHINE, machine)

    def put_helm(self, name, helm):
        """Put a helm under a name."""
        check_name(name)
        check_helm(helm)
        self.put_thing(name, HELM, helm)

    def put_thing(self, name, word, thing):
        """Put a thing under a name if all wishes then hold."""
        things = {**self.things, name: (word, thing)}
        for index, wish in enumerate(self.asked):
            # The other wishes hold as before.
            if name in names_of(wish) and not holds(wish, things):
                raise Broken(index)
        self.change(things, self.asked)

    def drop(self, name):
        """Take a name away that no wish names."""
        self.check_known(name)
        for index, wish in enumerate(self.asked):
            if name in names_of(wish):
                raise InUse(index)
        self.change({other: self.things[other] for other in self.things if other != name}, self.asked)

    def wish(self, wish):
        """Add a wish that holds."""
        if not is_wish(wish):
            raise InvalidWish(wish)
        for name in names_of(wish):
            self.check_known(name)
        if not holds(wish, self.things):
            raise Broken(len(self.asked))
        self.change(self.things, self.asked + (wish,))

    def lift(self, index):
        """Take a wish away."""
        if not is_whole(index) or not 0 <= index < len(self.asked):
            raise InvalidIndex(index)
        self.change(self.things, self.asked[:index] + self.asked[index + 1:])

    def named(self, name):
        """The pair of the word `machine` or `helm` and of the thing under a name."""
        self.check_known(name)
        return self.things[name]

    def undo(self):
        """Take back the last change."""
        if self.past == ():
            raise NothingToUndo()
        self.things, self.asked = self.past[-1]
        self.past = self.past[:-1]

    def trial(self):
        """For a `with` statement: all is taken back if its block ends with an exception."""
        return Trial(self)

    def tried(self, action):
        """Call a function with the workshop within a trial, and return what it returns."""
        with self.trial() as shop:
            return action(shop)

    def check_known(self, name):
        """Raise UnknownName for what is no name here."""
        if name not in self:
            raise UnknownName(name)

    def change(self, things, asked):
        """Replace the things and the wishes by others, so that this can be taken back."""
        self.past = self.past + ((self.things, self.asked),)
        self.things = things
        self.asked = asked

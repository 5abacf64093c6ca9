"""Consoles: lines of text that change and show a workshop."""

from allhelms.closings import closed
from allhelms.errors import InvalidHelm, InvalidMachine, InvalidPhrase, NotAWorkshop
from allhelms.loops import closes_steadily
from allhelms.machines import is_helm, is_machine
from allhelms.texts import pair_text, read_pair, row_text
from allhelms.wishes import HELM, MACHINE, is_name
from allhelms.workshops import Workshop

DONE = "done"
NOBODY = "none"

# How many names stand behind the first word of a line.
NAMES_BEHIND = {"undo": 0, "names": 0, "drop": 1, "show": 1, "close": 2, "steady": 2}


def is_put_phrase(words, pair):
    """Whether a line with these words ahead of the colon and these rows behind it puts a thing."""
    if len(words) != 2 or not is_name(words[1]):
        return False
    return words[0] == MACHINE and is_machine(pair) or words[0] == HELM and is_helm(pair)


def is_plain_phrase(words):
    """Whether these are the words of a line without a colon."""
    if NAMES_BEHIND.get(words[0], -1) != len(words) - 1:
        return False
    return all(is_name(name) for name in words[1:])


class Console:
    """Reads lines and answers them by what they do to a workshop."""

    def __init__(self, shop):
        if type(shop) is not Workshop:
            raise NotAWorkshop(shop)
        self.shop = shop

    def say(self, line):
        """The answer of a line."""
        if type(line) is not str:
            raise InvalidPhrase(line)
        head, colon, text = line.partition(": ")
        words = head.split(" ")
        if colon != "":
            pair = read_pair(text)
            if not is_put_phrase(words, pair):
                raise InvalidPhrase(line)
            return self.put(words[0], words[1], pair)
        if not is_plain_phrase(words):
            raise InvalidPhrase(line)
        if len(words) == 3:
            return self.ask_loop(words[0], words[1], words[2])
        return self.ask_one(words[0], words[1:])

    def put(self, word, name, thing):
        """Put a machine or a helm under a name."""
        if word == MACHINE:
            self.shop.put_machine(name, thing)
        else:
            self.shop.put_helm(name, thing)
        return DONE

    def ask_one(self, word, names):
        """The answer of a line with one name or none."""
        if word == "names":
            return " ".join(self.shop.names) if self.shop.names != () else NOBODY
        if word == "show":
            told, thing = self.shop.named(names[0])
            return f"{told} {pair_text(thing)}"
        if word == "drop":
            self.shop.drop(names[0])
        else:
            self.shop.undo()
        return DONE

    def ask_loop(self, word, name, other):
        """The answer of a line about the loop of a machine and a helm."""
        first, machine = self.shop.named(name)
        second, helm = self.shop.named(other)
        if first != MACHINE:
            raise InvalidMachine(machine)
        if second != HELM:
            raise InvalidHelm(helm)
        if word == "close":
            return row_text(closed(machine, helm))
        return "yes" if closes_steadily(machine, helm) else "no"

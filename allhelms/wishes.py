"""Names and wishes of workshops: what can be one, and whether a wish holds."""

from allhelms.closings import closed
from allhelms.loops import closes_steadily
from allhelms.machines import can_be_steadied
from allhelms.parity import has_steady_helm
from allhelms.ratios import is_share
from allhelms.rules import follows, is_rule
from allhelms.steady import is_quick

LONGEST_NAME = 12
MACHINE = "machine"
HELM = "helm"

# How many parts a wish has, by its first one.
PARTS = {"steady": 3, "quick": 4, "follows": 4, "steady helm": 2}


def is_name(value):
    """Whether a value, whatever it is, can be a name."""
    if type(value) is not str or not 1 <= len(value) <= LONGEST_NAME:
        return False
    return all("a" <= sign <= "z" for sign in value)


def is_wish(value):
    """Whether a value, whatever it is, is a wish."""
    if type(value) is not tuple or len(value) < 2 or type(value[0]) is not str:
        return False
    word = value[0]
    if PARTS.get(word, 0) != len(value) or not all(is_name(name) for name in names_of(value)):
        return False
    if word == "quick":
        return is_share(value[3])
    return word != "follows" or is_rule(value[3])


def names_of(wish):
    """The names in a wish, that of the machine first."""
    return wish[1:3]


def holds(wish, things):
    """Whether a wish holds, all of its names being names of things: pairs of a word and a machine or helm."""
    word, first = wish[0], things[wish[1]]
    if first[0] != MACHINE:
        return False
    machine = first[1]
    if word == "steady helm":
        return can_be_steadied(machine) and has_steady_helm(machine)
    second = things[wish[2]]
    if second[0] != HELM or not closes_steadily(machine, second[1]):
        return False
    if word == "quick":
        return is_quick(closed(machine, second[1]), wish[3])
    return word == "steady" or follows(machine, second[1], wish[3])

"""Machines and helms: pairs of rows, of which the second one begins with 1."""

from allhelms.closings import greater_degree, shared_by, without
from allhelms.errors import InvalidHelm, InvalidMachine, NoHelm
from allhelms.ratios import NIL
from allhelms.rows import is_led_row, is_row
from allhelms.steady import found_bends
from allhelms.sums import times


def is_helm(value):
    """Whether a value, whatever it is, is a helm."""
    if type(value) is not tuple or len(value) != 2:
        return False
    return is_row(value[0]) and is_led_row(value[1])


def is_machine(value):
    """Whether a value, whatever it is, is a machine."""
    return is_helm(value) and value[0] != () and value[0][0] == NIL


def check_machine(given):
    """Raise InvalidMachine for no machine."""
    if not is_machine(given):
        raise InvalidMachine(given)


def check_helm(given):
    """Raise InvalidHelm for no helm."""
    if not is_helm(given):
        raise InvalidHelm(given)


def found_core(machine):
    """The core of a machine; None if its hidden part is not steady."""
    part = shared_by(machine)
    return None if found_bends(part) is None else without(machine, part)


def steady_core(machine):
    """The core of a machine; raise NoHelm if its hidden part is not steady."""
    core = found_core(machine)
    if core is None:
        raise NoHelm()
    return core


def size_of(machine):
    """The greater degree of both rows of a machine."""
    check_machine(machine)
    return greater_degree(machine)


def helm_size(helm):
    """The greater degree of both rows of a helm, () counting as of the degree 0."""
    check_helm(helm)
    return greater_degree(helm)


def hidden_part(machine):
    """The common divisor of both rows of a machine."""
    check_machine(machine)
    return shared_by(machine)


def core_of(machine):
    """The machine without its hidden part."""
    check_machine(machine)
    return without(machine, shared_by(machine))


def can_be_steadied(machine):
    """Whether some helm steadies a machine."""
    check_machine(machine)
    return found_bends(shared_by(machine)) is not None


def same_helm(helm, other):
    """Whether two helms are the same but for hidden parts."""
    check_helm(helm)
    check_helm(other)
    return times(helm[0], other[1]) == times(other[0], helm[1])

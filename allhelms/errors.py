"""All errors of the package, each under HelmError alone."""


class HelmError(ValueError):
    """Under it stand all errors of the package."""


class InvalidFraction(HelmError):
    """No fraction, or none of those that are let."""

    def __init__(self, given):
        self.given = given


class InvalidNumber(HelmError):
    """No whole number, or none of those that are let."""

    def __init__(self, given):
        self.given = given


class InvalidRow(HelmError):
    """No row, or none of those that are let."""

    def __init__(self, given):
        self.given = given


class InvalidAnswer(HelmError):
    """No answer."""

    def __init__(self, given):
        self.given = given


class InvalidMachine(HelmError):
    """No machine."""

    def __init__(self, given):
        self.given = given


class InvalidHelm(HelmError):
    """No helm."""

    def __init__(self, given):
        self.given = given


class InvalidRule(HelmError):
    """No rule."""

    def __init__(self, given):
        self.given = given


class InvalidStart(HelmError):
    """No start of this machine or helm."""

    def __init__(self, given):
        self.given = given


class InvalidIndex(HelmError):
    """No index of a wish."""

    def __init__(self, given):
        self.given = given


class InvalidName(HelmError):
    """What cannot be a name."""

    def __init__(self, given):
        self.given = given


class InvalidWish(HelmError):
    """No wish."""

    def __init__(self, given):
        self.given = given


class InvalidPhrase(HelmError):
    """No line that a console knows."""

    def __init__(self, given):
        self.given = given


class UnknownName(HelmError):
    """No name in this workshop."""

    def __init__(self, given):
        self.given = given


class NotAWorkshop(HelmError):
    """No workshop."""

    def __init__(self, given):
        self.given = given


class NotAZero(HelmError):
    """A fraction that is no zero of the row in question."""

    def __init__(self, given):
        self.given = given


class InvalidBends(HelmError):
    """No bends; `index` is that of the first one that is wrong."""

    def __init__(self, index):
        self.index = index


class InUse(HelmError):
    """The wish with this index names it."""

    def __init__(self, index):
        self.index = index


class Broken(HelmError):
    """The wish with this index would not hold."""

    def __init__(self, index):
        self.index = index


class NotSteady(HelmError):
    """The loop or the answer is not steady."""


class NoHelm(HelmError):
    """No helm steadies the machine."""


class NotTold(HelmError):
    """The least worst of the machine is not told."""


class NoughtFirst(HelmError):
    """The first number of the answer below is 0."""


class NothingToUndo(HelmError):
    """No change can be taken back."""

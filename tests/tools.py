"""What several tests need: wrong values, ordinary rows, and arithmetic to compare with."""

import random
from fractions import Fraction

NIL, HALF, ONE, TWO, LESS = (0, 1), (1, 2), (1, 1), (2, 1), (-1, 1)
SLOW = ((1, 1), (-1, 2))
WILD = ((1, 1), (-2, 1))
SPRING = ((1, 1), (1, 2), (1, 4))


class Liar:
    """Says that it equals everything."""

    def __eq__(self, other):
        return True

    def __len__(self):
        return 2


def deep(levels):
    """A tuple that is nested so deep."""
    value = ()
    for _ in range(levels - 1):
        value = (value,)
    return value


NO_TUPLES = [None, True, False, 0, 1, "", "row", b"", [], [(1, 1)], {}, set(), object(), Liar(),
             range(2), int, len]

NO_FRACTIONS = NO_TUPLES + [
    (), (1,), (1, 1, 1), (2, 4), (2, 2), (0, 2), (0, 0), (1, 0), (1, -1), (-1, -2), (0, -1),
    (True, 1), (1, True), (False, 1), (1, False), (True, True), ("1", "1"), (None, 1), (1, None),
    [1, 1], ((1, 1), (1, 1)), (Liar(), 1), (1, Liar()), (10 ** 40, 10 ** 39), deep(14),
]

NO_ROWS = NO_TUPLES + [
    (1, 1), ((0, 1),), ((1, 1), (0, 1)), ((0, 1), (0, 1)), ((1, 1), 1), (1, (1, 1)),
    ([1, 1],), ((1, 1), [1, 1]), ((2, 4),), ((2, 4), (1, 1)), ((1, 0),), ((1, -1),), ((0, 2), (1, 1)),
    ((True, 1),), ((1, True),), ((1, 1), (True, 1)), ((False, 1), (1, 1)), ((1, 1, 1),), ((1,),),
    ((),), ((1, 1), ()), ((1, 1), None), (((1, 1),),), ((Liar(), 1),), (Liar(), (1, 1)), deep(14),
    (None,), ("11",),
]

NO_ANSWERS = NO_TUPLES + [
    (), (1, 1), ((1, 1),), (((1, 1),),), (((1, 1),), ((1, 1),), ((1, 1),)), [((1, 1),), ((1, 1),)],
    (SLOW, SLOW), ((), SLOW), ((), ((2, 1),)), ((), ()), (((1, 1),), ()), (((1, 1),), ((2, 1),)),
    (((1, 1),), ((0, 1), (1, 1))), (((0, 1), (1, 1)), ((0, 1), (1, 1))), (((1, 1),), ((-1, 1), (1, 1))),
    (((2, 1), (-1, 1)), SLOW), (((1, 1), (0, 1)), ((1, 1),)), (((1, 1),), ((1, 1), (0, 1))),
    ([(1, 1)], ((1, 1),)), (((1, 1),), [(1, 1)]), (((True, 1),), ((1, 1),)), (((1, 1),), ((True, 1),)),
    (((1, 1),), ((1, True),)), (((2, 4),), ((1, 1),)), (((1, 1),), ((2, 2),)), (None, ((1, 1),)),
    (((1, 1),), None), deep(14), (deep(13), deep(13)),
]


def row(*numbers):
    """The row of some numbers, Fraction or int."""
    told = [Fraction(number) for number in numbers]
    while told and told[-1] == 0:
        told.pop()
    return tuple((number.numerator, number.denominator) for number in told)


def pair(number):
    """The fraction of a number, Fraction or int."""
    told = Fraction(number)
    return told.numerator, told.denominator


def plain(value):
    """The numbers of a row as a list of Fraction."""
    return [Fraction(*number) for number in value]


def plain_product(value, other):
    """The row of the product, by the definition."""
    out = [Fraction(0)] * (len(value) + len(other))
    for i, x in enumerate(plain(value)):
        for j, y in enumerate(plain(other)):
            out[i + j] += x * y
    return row(*out)


def plain_sum(value, other):
    """The row of the sum, by the definition."""
    many = max(len(value), len(other))
    ours = plain(value) + [Fraction(0)] * (many - len(value))
    theirs = plain(other) + [Fraction(0)] * (many - len(other))
    return row(*[x + y for x, y in zip(ours, theirs)])


def plain_worth(value, at):
    """The worth at a number, by the definition."""
    return sum((number * Fraction(at) ** k for k, number in enumerate(plain(value))), Fraction(0))


def degree(value):
    """The degree, -1 for ()."""
    return len(value) - 1


def led_by_first(value):
    """The row over its first number that is not 0."""
    first = [number for number in plain(value) if number != 0][0]
    return row(*[number / first for number in plain(value)])


def some_rows(seed, many, most=5, bound=6):
    """Ordinary rows, the same ones for the same seed, with noughts among the numbers."""
    source = random.Random(seed)
    rows = []
    while len(rows) < many:
        numbers = [Fraction(source.randint(-bound, bound), source.randint(1, bound))
                   if source.random() < 0.75 else 0 for _ in range(source.randint(0, most))]
        rows.append(row(*numbers))
    return rows


def is_plain_row(value):
    """Whether a value is a row, by the definition, written another way than the package does."""
    if not isinstance(value, tuple):
        return False
    for number in value:
        if not isinstance(number, tuple) or [type(part) for part in number] != [int, int]:
            return False
        if number[1] < 1 or pair(Fraction(*number)) != number:
            return False
    return not value or value[-1][0] != 0

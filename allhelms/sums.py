"""Arithmetic over rows, which are taken for granted here: nothing is checked.

Products and divisions go over whole numbers under one common divisor, since
reducing each fraction on the way would cost far more than the sums themselves.
"""

from math import gcd, lcm

from allhelms.ratios import NIL, ONE, ratio, ratio_less, ratio_over, ratio_product, ratio_sum

UNIT = ((1, 1),)


def without_end(numbers, nought):
    """The numbers, a list, without the noughts at its end."""
    many = len(numbers)
    while many > 0 and numbers[many - 1] == nought:
        many -= 1
    return numbers[:many]


def trimmed(fractions):
    """The row of some fractions, a list, without the noughts at its end."""
    return tuple(without_end(fractions, NIL))


def cleared(row):
    """The whole numbers, as a list, and the number under them all."""
    under = 1
    for fraction in row:
        under = lcm(under, fraction[1])
    return [number * (under // part) for number, part in row], under


def row_over(numbers, under):
    """The row of some whole numbers, each over one that is not 0."""
    return trimmed([ratio(number, under) for number in numbers])


def size_sum(row):
    """The sum of the sizes of the numbers of a row."""
    numbers, under = cleared(row)
    return ratio(sum([abs(number) for number in numbers]), under)


def padded(row, many):
    """The fractions of a row with noughts behind them, so many in all."""
    return row + (NIL,) * (many - len(row))


def plus(row, other):
    """The sum of two rows."""
    many = max(len(row), len(other))
    return trimmed([ratio_sum(x, y) for x, y in zip(padded(row, many), padded(other, many))])


def minus(row, other):
    """The first row less the second one."""
    many = max(len(row), len(other))
    return trimmed([ratio_less(x, y) for x, y in zip(padded(row, many), padded(other, many))])


def whole_product(ours, theirs):
    """The numbers of the product of two rows of whole numbers, perhaps with noughts at the end."""
    numbers = [0] * (len(ours) + len(theirs))
    for i, x in enumerate(ours):
        for j, y in enumerate(theirs):
            numbers[i + j] += x * y
    return numbers


def times(row, other):
    """The product of two rows."""
    ours, under = cleared(row)
    theirs, unit = cleared(other)
    return row_over(whole_product(ours, theirs), under * unit)


def scaled(row, fraction):
    """The row times a fraction other than 0."""
    return tuple([ratio_product(number, fraction) for number in row])


def stretched(row, fraction):
    """The row whose number k is that of the row times the fraction to the power k; this is not 0."""
    numbers = []
    power = ONE
    for number in row:
        numbers.append(ratio_product(number, power))
        power = ratio_product(power, fraction)
    return tuple(numbers)


def worth_of(row, fraction):
    """The worth of a row at a fraction."""
    worth = NIL
    for number in reversed(row):
        worth = ratio_sum(ratio_product(worth, fraction), number)
    return worth


def whole_split(numbers, by):
    """(quotient, rest, scale): scale times the numbers is quotient times by, plus the rest."""
    rest = list(numbers)
    top = by[-1]
    many = max(0, len(numbers) - len(by) + 1)
    quotient = [0] * many
    scale = 1
    for at in reversed(range(many)):
        last = rest.pop()
        if last == 0:
            continue
        part = gcd(last, top)
        grow, take = top // part, last // part
        rest = [grow * x for x in rest]
        quotient = [grow * x for x in quotient]
        quotient[at] = take
        scale *= grow
        for i in range(len(by) - 1):
            rest[at + i] -= take * by[i]
    return quotient, rest, scale


def split_row(row, other):
    """The pair (quotient, rest) with row = quotient * other + rest; the other is not ()."""
    numbers, under = cleared(row)
    by, unit = cleared(other)
    quotient, rest, scale = whole_split(numbers, by)
    full = scale * under
    return row_over([unit * x for x in quotient], full), row_over(rest, full)


def quotient_of(row, other):
    """What the row is over the other one, which divides it."""
    return split_row(row, other)[0]


def common_factor(numbers):
    """The greatest whole number that divides them all, 0 if there is none."""
    part = 0
    for number in numbers:
        part = gcd(part, number)
    return part


def divided(numbers):
    """The whole numbers, not all 0, without a common divisor."""
    part = common_factor(numbers)
    return [number // part for number in numbers]


def primitive(numbers):
    """The whole numbers without the noughts at the end and without a common divisor."""
    return divided(without_end(numbers, 0))


def first_fraction(row):
    """The first number of a row, other than (), that is not 0."""
    for number in row:
        if number != NIL:
            return number
    return NIL


def whole_worth(numbers, at):
    """The worth of a row of whole numbers at a whole number."""
    worth = 0
    for number in reversed(numbers):
        worth = worth * at + number
    return worth


def whole_digits(worth, at):
    """The row of whole numbers, none of a size above at / 2, with this worth at a number above 2."""
    numbers = []
    while worth != 0:
        last = worth % at
        if 2 * last > at:
            last -= at
        numbers.append(last)
        worth = (worth - last) // at
    return numbers


def goes_into(by, numbers):
    """Whether one row of whole numbers divides another one."""
    return without_end(whole_split(numbers, by)[1], 0) == []


def whole_shared(first, second):
    """The common divisor, as `primitive` tells it, of two rows of whole numbers told so, too."""
    at = 2 * min(max([abs(x) for x in first]), max([abs(x) for x in second])) + 3
    while True:
        # The worth of what divides both divides both worths. If the row found divides both, it is all
        # that does: the worth of a row that it lacks would divide the number that `primitive` takes
        # away, which is at most at / 2; but as its zeros are all of a size below at / 2 - 1 / 2, it is
        # worth more.
        found = primitive(whole_digits(gcd(whole_worth(first, at), whole_worth(second, at)), at))
        if goes_into(found, first) and goes_into(found, second):
            return found
        # What else both worths have in common is bounded, so this comes to an end.
        at = at * at


def shared_part(row, other):
    """The common divisor of two rows, not both ()."""
    first = primitive(cleared(row)[0])
    second = primitive(cleared(other)[0])
    whole = whole_shared(first, second) if first != [] and second != [] else first + second
    found = row_over(whole, 1)
    return scaled(found, ratio_over(ONE, first_fraction(found)))


def inverse_in(row, other):
    """The row e of a degree below the other's with e * row = 1 but for multiples of the other.

    Both are without a common divisor, the other of a degree above 0.
    """
    old = cleared(other)[0]
    new, under = cleared(split_row(row, other)[1])
    before, now = [], [1]
    while len(new) > 1:
        quotient, rest, scale = whole_split(old, new)
        rest = without_end(rest, 0)
        turn = [-x for x in whole_product(quotient, now)]
        for i, x in enumerate(before):
            turn[i] += scale * x
        # Without this the numbers would grow ever faster.
        part = common_factor(rest + turn)
        old, new = new, [x // part for x in rest]
        before, now = now, [x // part for x in turn]
    return row_over([under * x for x in now], new[0])

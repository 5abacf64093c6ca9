"""Zeros of rows: how many real ones there are from one fraction to another one, and those that are fractions.

A chain is the list of rows of whole numbers that Sturm tells for a row: from one
fraction to a greater one as many zeros of the row are passed as changes of sign
along the chain are lost.
"""

from allhelms.ratios import ratio
from allhelms.sums import cleared, divided, primitive, whole_shared, whole_split, without_end


def slope(numbers):
    """The row of the slope of a row of whole numbers."""
    return [at * number for at, number in enumerate(numbers)][1:]


def plain_part(numbers):
    """A row of whole numbers, not all 0, with the same zeros, each of them once."""
    first = primitive(numbers)
    if len(first) == 1:
        return first
    return primitive(whole_split(first, whole_shared(first, primitive(slope(first))))[0])


def chain_of(row):
    """The chain of a row other than ()."""
    chain = [plain_part(cleared(row)[0])]
    following = slope(chain[0])
    while following != []:
        chain.append(following)
        _, rest, scale = whole_split(chain[-2], chain[-1])
        rest = without_end(rest, 0)
        following = divided([-x for x in rest] if scale > 0 else rest)
    return chain


def sign_of(numbers, x):
    """1, 0 or - 1: the sign of the worth of a row of whole numbers at a fraction."""
    worth, power = 0, 1
    for number in reversed(numbers):
        worth = worth * x[0] + number * power
        power = power * x[1]
    if worth == 0:
        return 0
    return 1 if worth > 0 else -1


def changes_at(chain, x):
    """How often the sign changes along a chain at a fraction, noughts left out."""
    signs = [sign for sign in [sign_of(numbers, x) for numbers in chain] if sign != 0]
    return len([at for at in range(1, len(signs)) if signs[at] != signs[at - 1]])


def many_zeros(chain, low, high):
    """How many zeros, each taken once, there are from low to high, both let in."""
    # Sturm's count leaves the lower end out.
    passed = changes_at(chain, low) - changes_at(chain, high)
    return passed + 1 if sign_of(chain[0], low) == 0 else passed


def worth_modulo(numbers, at, modulus):
    """The worth of a row of whole numbers at a whole number, but for multiples of the modulus."""
    worth = 0
    for number in reversed(numbers):
        worth = (worth * at + number) % modulus
    return worth


def is_prime(number):
    """Whether a whole number above 1 is a prime."""
    by = 2
    while by * by <= number:
        if number % by == 0:
            return False
        by += 1
    return True


def zeros_modulo(numbers, prime):
    """The zeros of a row of whole numbers but for multiples of a prime.

    None if the last number or the slope at a zero is such a multiple: these zeros could not be lifted.
    """
    if numbers[-1] % prime == 0:
        return None
    found = [at for at in range(prime) if worth_modulo(numbers, at, prime) == 0]
    steep = [at for at in found if worth_modulo(slope(numbers), at, prime) != 0]
    return found if steep == found else None


def fit_prime(numbers):
    """The least prime but for whose multiples all zeros are simple; each zero of the row is one once."""
    prime = 2
    while not is_prime(prime) or zeros_modulo(numbers, prime) is None:
        prime += 1
    return prime


def lifted(numbers, zero, prime, most):
    """A zero but for multiples of a prime as one but for those of a power of it above `most` (Hensel)."""
    turn = slope(numbers)
    back = 1
    while back * worth_modulo(turn, zero, prime) % prime != 1:
        back += 1
    modulus = prime
    while modulus <= most:
        modulus = modulus * modulus
        zero = (zero - worth_modulo(numbers, zero, modulus) * back) % modulus
        back = back * (2 - worth_modulo(turn, zero, modulus) * back) % modulus
    return zero, modulus


def inner_fractions(row):
    """The fractions of a size below 1 at which a row is 0; its first number is not 0."""
    numbers = plain_part(cleared(row)[0])
    # Each zero that is a fraction is a whole number over the last number.
    last = numbers[-1]
    prime = fit_prime(numbers)
    found = []
    for zero in zeros_modulo(numbers, prime):
        place, modulus = lifted(numbers, zero, prime, 2 * abs(last))
        top = place * last % modulus
        if 2 * top > modulus:
            top -= modulus
        if abs(top) < abs(last) and sign_of(numbers, ratio(top, last)) == 0:
            found.append(ratio(top, last))
    return found

"""Polynomials with integers as coefficients: lists, the constant first, without zeros at the end.

Roots, signs and divisors of a polynomial stay the same if it is multiplied by
a number above 0, and integers are reckoned with much faster than Ratios.
"""

from math import gcd, lcm


def trimmed(terms):
    """The list without the zeros at its end."""
    many = len(terms)
    while many > 0 and terms[many - 1] == 0:
        many = many - 1
    return list(terms[:many])


def shared_bottom(ratios):
    """The least integer above 0 that makes integers of all Ratios of a list."""
    bottom = 1
    for ratio in ratios:
        bottom = lcm(bottom, ratio.bottom)
    return bottom


def multiplied(ratios, bottom):
    """The integers that are Ratios times a shared bottom."""
    return [ratio.top * (bottom // ratio.bottom) for ratio in ratios]


def reduced(terms):
    """The integers without the factors above 0 that all of them share."""
    shared = 0
    for term in terms:
        shared = gcd(shared, term)
    return [term // shared for term in terms] if shared > 1 else list(terms)


def whole_slope(terms):
    """The derivative."""
    return [at * term for at, term in enumerate(terms)][1:]


def whole_product(one, other):
    """The product of two polynomials."""
    if len(one) == 0 or len(other) == 0:
        return []
    found = [0 for _ in range(len(one) + len(other) - 1)]
    for start, factor in enumerate(one):
        for at, term in enumerate(other):
            found[start + at] = found[start + at] + factor * term
    return found


def whole_rest(one, other):
    """The rest of a division, times some number above 0."""
    left = list(one)
    while len(left) >= len(other):
        left = _without_last(left, other)
    return left


def _without_last(left, other):
    shared = gcd(left[-1], other[-1])
    # The factor of `left` has to be above 0, so that the rest keeps its sign.
    scale = abs(other[-1]) // shared
    factor = left[-1] // shared if other[-1] > 0 else -left[-1] // shared
    start = len(left) - len(other)
    lower = [term * scale for term in left]
    for at, term in enumerate(other):
        lower[start + at] = lower[start + at] - factor * term
    return reduced(trimmed(lower))


def whole_quotient(one, other):
    """The quotient by a reduced polynomial that divides without a rest."""
    left = list(one)
    many = len(one) - len(other) + 1
    found = [0 for _ in range(many)]
    for start in reversed(range(many)):
        factor = left[start + len(other) - 1] // other[-1]
        found[start] = factor
        for at, term in enumerate(other):
            left[start + at] = left[start + at] - factor * term
    return found


def whole_common(one, other):
    """The polynomial of the greatest degree that divides both; it is reduced."""
    left, right = reduced(one), reduced(other)
    while len(right) > 0:
        left, right = right, whole_rest(left, right)
    return left

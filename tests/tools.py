"""What several tests need: values to try, and a way to make polynomials with known roots."""

from fractions import Fraction

from filterorders.polynomials import Polynomial
from filterorders.ratios import Ratio

NOT_NUMBERS = [True, False, None, "1", "", b"1", 1.0, 0.5, 1j, [], [1], (1,), {}, {1: 2}, Fraction(1, 2), object(), int]
BIG = 10 ** 40 - 1
PRIME = 10 ** 39 + 3


def ratio(value):
    value = Fraction(value)
    return Ratio(value.numerator, value.denominator)


def fraction(value):
    return Fraction(value.top, value.bottom)


def fractions_of(polynomial):
    return [fraction(term) for term in polynomial.terms()]


def polynomial(*values):
    return Polynomial([ratio(value) for value in values])


def with_roots(*places):
    found = Polynomial([1])
    for place in places:
        found = found * polynomial(-Fraction(place), 1)
    return found

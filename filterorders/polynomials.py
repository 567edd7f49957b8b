"""Polynomials with Ratios as coefficients."""

from filterorders.errors import ByZero, ZeroPolynomial
from filterorders.ratios import Ratio, as_ratio
from filterorders.wholes import multiplied, reduced, shared_bottom, trimmed
from filterorders.wholes import whole_common, whole_product, whole_quotient, whole_slope


class Polynomial:
    """A polynomial with given coefficients, the constant first."""

    def __init__(self, numbers):
        self._terms = tuple(trimmed([as_ratio(number) for number in numbers]))

    def terms(self):
        """The coefficients without zeros at the end, the constant first."""
        return list(self._terms)

    def __len__(self):
        return len(self._terms)

    def __eq__(self, other):
        return isinstance(other, Polynomial) and self._terms == other._terms

    def __add__(self, other):
        many = max(len(self._terms), len(other._terms))
        return Polynomial([_term_at(self._terms, at) + _term_at(other._terms, at) for at in range(many)])

    def __sub__(self, other):
        many = max(len(self._terms), len(other._terms))
        return Polynomial([_term_at(self._terms, at) - _term_at(other._terms, at) for at in range(many)])

    def __mul__(self, other):
        mine, theirs = shared_bottom(self._terms), shared_bottom(other._terms)
        found = whole_product(multiplied(self._terms, mine), multiplied(other._terms, theirs))
        return Polynomial([Ratio(term, mine * theirs) for term in found])

    def __neg__(self):
        return Polynomial([-term for term in self._terms])

    def worth(self, number):
        """The value at a number."""
        place = as_ratio(number)
        value = Ratio(0)
        for term in reversed(self._terms):
            value = value * place + term
        return value

    def slope(self):
        """The derivative."""
        return Polynomial([term * at for at, term in enumerate(self._terms)][1:])

    def parted(self, other):
        """The quotient by another polynomial, and the rest."""
        if len(other) == 0:
            raise ByZero()
        divisor = other.terms()
        many = len(self._terms) - len(divisor) + 1
        quotient = []
        rest = list(self._terms)
        for start in reversed(range(many)):
            factor = rest[-1].over(divisor[-1])
            quotient.append(factor)
            for at, term in enumerate(divisor):
                rest[start + at] = rest[start + at] - factor * term
            rest.pop()
        return Polynomial(quotient[::-1]), Polynomial(rest)


def common(one, other):
    """The polynomial of the greatest degree that divides both, with 1 as its last coefficient."""
    return _with_last_one(whole_common(whole_terms(one), whole_terms(other)))


def single(polynomial):
    """The polynomial with the same roots, but each only once, and 1 as its last coefficient."""
    if len(polynomial) == 0:
        raise ZeroPolynomial()
    terms = whole_terms(polynomial)
    return _with_last_one(whole_quotient(terms, whole_common(terms, whole_slope(terms))))


def whole_terms(polynomial):
    """The integers without shared factors that are the coefficients times a number above 0."""
    ratios = polynomial.terms()
    return reduced(multiplied(ratios, shared_bottom(ratios)))


def _term_at(terms, at):
    return terms[at] if at < len(terms) else Ratio(0)


def _with_last_one(terms):
    return Polynomial([Ratio(term, terms[-1]) for term in terms])

"""What is claimed of a formula: that it is nothing, or that it is never negative.

A claim is so for two filters exactly if it is so for each of their lines and planes.
"""

from filterorders.bounds import plane_factors, shape
from filterorders.chains import sign_at
from filterorders.polynomials import Polynomial, common, single, whole_terms
from filterorders.ratios import sign
from filterorders.tables import line, value


class Claim:
    """The claim that a formula is never negative, if `sign_only`, or else that it is nothing."""

    def __init__(self, formula, sign_only):
        self._formula = formula
        self._sign_only = sign_only
        self._polynomials = list(shape(formula)) if sign_only else [_nothing_on_planes(formula)]

    def polynomials(self):
        """Polynomials whose signs at an angle number tell whether it is so on a plane with it."""
        return list(self._polynomials)

    def on_line(self, name):
        """Whether it is so on the line with a name."""
        p, q = line(name)
        return self._fits([sign(value(self._formula, p, q).trace())])

    def on_plane(self, number):
        """Whether it is so on a plane with an angle number."""
        return self._fits([sign(polynomial.worth(number)) for polynomial in self._polynomials])

    def along(self, parted):
        """Whether it is so on planes with the angle numbers of each cell.

        The cells are parted by the roots of its polynomials, and maybe of others.
        """
        rows = [_signs_along(polynomial, parted) for polynomial in self._polynomials]
        return [self._fits(signs) for signs in zip(*rows)]

    def _fits(self, signs):
        return all([found == 0 or (self._sign_only and found > 0) for found in signs])


def _nothing_on_planes(formula):
    """The polynomial whose roots are the angle numbers above 0 and below 1 where a formula is nothing."""
    constant, ps, qs, pqs, qps = plane_factors(formula)
    # On a plane with the angle number t, the unit table times 1 - t is
    # p + q - pq - qp, and no sum of multiples of p, q, pq and qp is 0.
    less = Polynomial([1, -1])
    found = Polynomial([])
    for polynomial in (constant + less * ps, constant + less * qs, constant - less * pqs, constant - less * qps):
        found = common(found, polynomial)
    return found


def _signs_along(polynomial, parted):
    """The signs of a polynomial in cells that are parted by its roots, and maybe by others."""
    if len(polynomial) == 0:
        return [0 for _ in parted]
    signs = _signs_between(polynomial, parted)
    # With each root only once, the sign changes at each root, and nowhere else.
    sides = _signs_between(single(polynomial), parted)
    found = [signs[0]]
    for at in range(1, len(signs)):
        found.append(signs[at] if sides[at - 1] == sides[at] else 0)
        found.append(signs[at])
    return found


def _signs_between(polynomial, parted):
    terms = whole_terms(polynomial)
    return [sign_at(terms, cell[1]) for cell in parted if cell[0] == "between"]

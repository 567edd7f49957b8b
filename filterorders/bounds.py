"""Readings of formulas, and what they are at least and at most for all filters and beams."""

from filterorders.beams import beam_of, inner
from filterorders.errors import BadBeam, NotMirror
from filterorders.formulas import Formula
from filterorders.polynomials import Polynomial
from filterorders.ratios import Ratio
from filterorders.roots import angle_in, cells, nowhere_below
from filterorders.tables import check_filters, plane, value


def checked_beam(p, q, beam):
    """The Ratios of a beam; raises an error unless p and q are filters of its length."""
    check_filters(p, q)
    numbers = beam_of(beam, len(p))
    if all([number == 0 for number in numbers]):
        raise BadBeam()
    return numbers


def reading(formula, p, q, beam):
    """The sum of the products of a beam's numbers with those to which the value sends it."""
    numbers = checked_beam(p, q, beam)
    return inner(numbers, value(formula, p, q).sent(numbers))


def plane_factors(formula):
    """What the unit table, p, q, pq and qp are multiplied by in the value on a plane.

    These are polynomials in the angle number of the plane.
    """
    terms = formula.terms()
    # On a plane with the angle number t, pqp is t p and qpq is t q.
    return (
        Polynomial([terms.get("", 0)]), _factor_of(terms, "pq", 1), _factor_of(terms, "qp", 1),
        _factor_of(terms, "pq", 2), _factor_of(terms, "qp", 2),
    )


def shape(formula):
    """The trace and the determinant of the value on a plane, polynomials in its angle number."""
    if not formula.is_mirror():
        raise NotMirror()
    # In a formula that is its own mirror, pq and qp are multiplied by the same.
    constant, ps, qs, mixed, _ = plane_factors(formula)
    angle_number = Polynomial([0, 1])
    trace = ps + qs + angle_number * mixed * Polynomial([2])
    determinant = (ps * qs - angle_number * mixed * mixed) * Polynomial([1, -1])
    return trace + constant * Polynomial([2]), constant * constant + constant * trace + determinant


def never_negative(formula):
    """Whether the reading is at least 0 for all pairs of filters and all beams."""
    trace, determinant = shape(formula)
    return nowhere_below(trace) and nowhere_below(determinant)


def counter(formula):
    """None, or two filters and a beam for which the reading is below 0."""
    for polynomial in shape(formula):
        for cell in cells([polynomial], 0, 1):
            if cell[0] == "between" and polynomial.worth(cell[1]) < 0:
                p, q = plane(angle_in(cell[1], cell[2]))
                return p, q, _beam_below(value(formula, p, q))
    return None


def at_most(formula, number):
    """Whether the reading is at most a number times the strength of the beam, always."""
    return never_negative(Formula({"": number}) - formula)


def strength_at_most(formula, number):
    """Whether the strength of what a beam is sent to is at most a number times its own, always."""
    return at_most(formula.mirror() * formula, number)


def _factor_of(terms, letters, size):
    """The polynomial of the numbers of rows of the given length, and of 2, 4 .. letters more."""
    lengths = range(size, max([len(row) for row in terms], default=0) + 1, 2)
    return Polynomial([terms.get((letters * length)[:length], 0) for length in lengths])


def _beam_below(table):
    """A beam for which the reading of a table of two rows is below 0; its trace or determinant is."""
    (left, side), (_, right) = table.rows()
    if left < 0:
        return [Ratio(1), Ratio(0)]
    if right < 0:
        return [Ratio(0), Ratio(1)]
    # None of both is below 0, so the determinant is.
    if left != 0:
        return [-side, left]
    if right != 0:
        return [right, -side]
    return [Ratio(1), -side]

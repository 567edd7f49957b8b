"""Two filters, one behind the other, again and again."""

from filterorders.beams import whole_beam
from filterorders.errors import BadNumber, BadShare
from filterorders.pieces import angles, pieces
from filterorders.polynomials import Polynomial
from filterorders.ratios import Ratio, as_ratio, is_number, is_whole, sign
from filterorders.roots import roots
from filterorders.spaces import basis_of, whole_inner
from filterorders.tables import Table, check_filters
from filterorders.wholes import multiplied, reduced, shared_bottom


def rounds(p, q, n):
    """The table that sends a beam to what is left of it after n rounds through q and p."""
    _check_rounds(p, q, n)
    both = p * q
    power = Table.unit(len(p))
    for _ in range(n):
        power = power * both
    return power


def greatest_angle(p, q):
    """The greatest angle number of the planes, as a Root; None if there are no planes."""
    polynomial = angles(p, q)
    return None if len(polynomial) == 1 else roots(polynomial, 0, 1)[-1]


def rest_at_most(p, q, n, share):
    """Whether after n rounds at most a share of the strength of what will not stay is left, always."""
    _check_rounds(p, q, n)
    most = _share_of(share)
    if n == 0:
        return most == 1 or pieces(p, q)["both"] == Table.unit(len(p))
    return _power_at_most(greatest_angle(p, q), 2 * n - 1, most)


def slow_beam(p, q, n, share):
    """None, or a beam for which more is left after n rounds than rest_at_most asks."""
    if rest_at_most(p, q, n, share):
        return None
    found = pieces(p, q)
    if n == 0:
        return _beam_in(Table.unit(len(p)) - found["both"])
    # For a beam of the strength 1 in the space of q and of the planes, n rounds
    # leave the reading of qpq taken 2 n - 1 times as a factor. Since powers are
    # convex, this is at least the reading of p taken so many times as a factor.
    least = _number_below(greatest_angle(p, q), 2 * n - 1, as_ratio(share))
    basis = basis_of([whole_beam(row)[0] for row in (q * found["planes"]).rows()])
    return [Ratio(item) for item in _beam_above(_whole_rows_less(p, least), [beam for _, beam in basis])]


def enough_rounds(p, q, share, most):
    """The least number of rounds up to `most` for which rest_at_most is so; None if there is none."""
    greatest = greatest_angle(p, q)
    ratio = _share_of(share)
    for n in range(1, most + 1):
        if _power_at_most(greatest, 2 * n - 1, ratio):
            return n
    return None


def _check_rounds(p, q, n):
    check_filters(p, q)
    if not is_whole(n) or n < 0:
        raise BadNumber(n)


def _share_of(given):
    if not is_number(given) or as_ratio(given) < 0 or not as_ratio(given) <= 1:
        raise BadShare(given)
    return as_ratio(given)


def _beam_in(table):
    """A beam in the space of a filter other than the table of zeros."""
    beams = [list(row) for row in table.rows() if any([number != 0 for number in row])]
    return beams[0]


def _power_at_most(root, power, most):
    """Whether a Root, so many times as a factor, is at most a number; if there is none, it is so."""
    if root is None:
        return True
    return root.sign_of(Polynomial([-most] + [0] * (power - 1) + [1])) <= 0


def _number_below(root, power, least):
    """A number below a Root from 0 to 1 that is at least `least` if taken so many times as a factor.

    For the Root itself, this is more than `least`.
    """
    low, high = Ratio(0), Ratio(1)
    while _power(low, power) < least:
        middle = (low + high).over(2)
        if root.against(middle) > 0:
            low = middle
        else:
            high = middle
    return low


def _power(ratio, many):
    found = Ratio(1)
    for _ in range(many):
        found = found * ratio
    return found


def _whole_rows_less(table, number):
    """The rows of a table minus a number times the unit table, times what makes integers of all items."""
    rows = [list(row) for row in table.rows()]
    for at in range(len(rows)):
        rows[at][at] = rows[at][at] - number
    bottom = shared_bottom([item for row in rows for item in row])
    return [multiplied(row, bottom) for row in rows]


def _worth(rows, beam, other):
    return whole_inner(beam, [whole_inner(row, other) for row in rows])


def _beam_above(rows, beams):
    """A sum of multiples of integer beams for which the reading of a table is above 0; there is one.

    The table is its own mirror.
    """
    readings = [_worth(rows, beam, beam) for beam in beams]
    for beam, found in zip(beams, readings):
        if found > 0:
            return beam
    for at, found in enumerate(readings):
        if found < 0:
            # What remains of the others without this beam has a reading above 0, too.
            others = beams[:at] + beams[at + 1:]
            return _beam_above(rows, [_apart(rows, other, beams[at], found) for other in others])
    # All readings are 0, so that of a sum is twice the product of two beams.
    for at, beam in enumerate(beams):
        for other in beams[:at]:
            side = sign(_worth(rows, beam, other))
            if side != 0:
                return [left + side * right for left, right in zip(beam, other)]
    return None


def _apart(rows, beam, other, found):
    """A multiple of a beam plus one of another beam, whose reading is below 0, so that their product is 0."""
    factor = _worth(rows, beam, other)
    return reduced([factor * right - found * left for left, right in zip(beam, other)])

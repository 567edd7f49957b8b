"""Lists of numbers, and the sums of their products.

Sums of products are reckoned over one shared bottom, since lowering each
product and each sum by itself takes much longer.
"""

from filterorders.errors import BadBeam
from filterorders.ratios import Ratio, as_ratio, is_number
from filterorders.spaces import whole_inner
from filterorders.wholes import multiplied, shared_bottom


def has_numbers(given, many):
    """Whether a value is a list or tuple of as many numbers."""
    if not isinstance(given, (list, tuple)) or len(given) != many:
        return False
    return all([is_number(item) for item in given])


def beam_of(given, many):
    """The list of the Ratios of a list of as many numbers, which may all be 0."""
    if not has_numbers(given, many):
        raise BadBeam()
    return [as_ratio(item) for item in given]


def whole_beam(ratios):
    """A tuple of integers and a bottom; the Ratios are the integers over the bottom."""
    bottom = shared_bottom(ratios)
    return multiplied(ratios, bottom), bottom


def inner_over(one, other):
    """The sum of the products of the Ratios of two lists that are given as whole_beam does."""
    return Ratio(whole_inner(one[0], other[0]), one[1] * other[1])


def inner(one, other):
    """The sum of the products of the Ratios of two lists."""
    return inner_over(whole_beam(one), whole_beam(other))

"""Signs of polynomials, counted along chains of rests (after Sturm and Tarski).

All polynomials here are lists of integers as in filterorders.wholes.
"""

from filterorders.ratios import sign
from filterorders.wholes import reduced, whole_product, whole_quotient, whole_rest, whole_slope


def sign_at(terms, ratio):
    """The sign of the value at a Ratio."""
    top, bottom = ratio.top, ratio.bottom
    value, power = 0, 1
    for term in reversed(terms):
        value = value * top + term * power
        power = power * bottom
    return sign(value)


def chain_of_rests(one, other):
    """The two polynomials, and then the negative of the rest of each two neighbours."""
    chain = [one]
    left, right = one, other
    while len(right) > 0:
        chain.append(right)
        left, right = right, [-term for term in whole_rest(left, right)]
    return chain


def root_chain(terms):
    """The chain of a polynomial and its derivative, parted by what all of it has in common.

    So it begins with a polynomial that has the same roots, but each only once,
    and root_total counts them, even if one of the bounds is a root.
    """
    chain = chain_of_rests(terms, reduced(whole_slope(terms)))
    return [whole_quotient(member, chain[-1]) for member in chain]


def changes(chain, ratio):
    """The number of changes of sign along a chain at a Ratio, zeros left out."""
    many, before = 0, 0
    for terms in chain:
        now = sign_at(terms, ratio)
        if now * before < 0:
            many = many + 1
        if now != 0:
            before = now
    return many


def root_total(chain, low, high):
    """The number of different roots above `low` and at most `high`."""
    return changes(chain, low) - changes(chain, high)


def sign_at_root(terms, low, high, other):
    """The sign of another polynomial at the only root of a polynomial between two Ratios.

    The polynomial has no root twice, and none of the two Ratios is a root of it.
    """
    chain = chain_of_rests(terms, whole_rest(whole_product(whole_slope(terms), whole_rest(other, terms)), terms))
    return root_total(chain, low, high)

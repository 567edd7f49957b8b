"""Spaces that are given by beams of integers: lists of integers of one length.

A space stays the same if a beam is multiplied by a number other than 0, so
the beams are kept without factors that all their integers share.
"""

from math import lcm

from filterorders.wholes import reduced


def basis_of(beams):
    """Beams with the same sums of multiples, each with a place where it alone is not 0.

    They are given as tuples of this place and the beam.
    """
    basis = []
    for beam in beams:
        rest = list(beam)
        for place, member in basis:
            rest = _cleared(rest, member, place)
        free = _first_place(rest)
        if free < len(rest):
            basis = [(at, _cleared(other, rest, free)) for at, other in basis] + [(free, reduced(rest))]
    return basis


def across(basis, length):
    """Beams whose sums of multiples are the beams at right angles to a basis."""
    bottom = 1
    for place, beam in basis:
        bottom = lcm(bottom, beam[place])
    taken = [place for place, _ in basis]
    found = []
    for free in range(length):
        if free not in taken:
            made = [0 for _ in range(length)]
            made[free] = bottom
            for place, beam in basis:
                made[place] = -beam[free] * (bottom // beam[place])
            found.append(reduced(made))
    return found


def upright(beams):
    """Beams at right angles to one another, with the same sums of multiples.

    None of the given beams is a sum of multiples of the others.
    """
    found = []
    for beam in beams:
        rest = beam
        for other in found:
            rest = _less(rest, whole_inner(other, other), other, whole_inner(rest, other))
        found.append(rest)
    return found


def whole_inner(one, other):
    """The sum of the products of the integers of two beams."""
    total = 0
    for left, right in zip(one, other):
        total = total + left * right
    return total


def _cleared(beam, other, place):
    """The beam, multiplied and minus a multiple of another one, so that it is 0 at a place."""
    return _less(beam, other[place], other, beam[place])


def _less(beam, scale, other, factor):
    return reduced([scale * left - factor * right for left, right in zip(beam, other)])


def _first_place(beam):
    """The first place with an integer other than 0, or the length if there is none."""
    place = 0
    while place < len(beam) and beam[place] == 0:
        place = place + 1
    return place

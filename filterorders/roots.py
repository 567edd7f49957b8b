"""Real roots of polynomials, kept exactly: as a polynomial and two bounds."""

from filterorders.chains import changes, root_chain, root_total, sign_at, sign_at_root
from filterorders.errors import BadRoot, BadStretch, ZeroPolynomial
from filterorders.polynomials import Polynomial, whole_terms
from filterorders.ratios import Ratio, as_ratio, sign

HALVINGS = 32


class Root:
    """The only root of a polynomial from one number to another.

    The polynomial that is kept has no root twice. The bounds are both the
    root itself, or none of them is a root.
    """

    def __init__(self, polynomial, low, high):
        chain = _chain_of(polynomial)
        first, last = as_ratio(low), as_ratio(high)
        if not _has_one_root(chain, first, last):
            raise BadRoot()
        if sign_at(chain[0], first) == 0:
            last = first
        if sign_at(chain[0], last) == 0:
            first = last
        self._polynomial = Polynomial(chain[0])
        self._low = first
        self._high = last

    @property
    def polynomial(self):
        return self._polynomial

    @property
    def low(self):
        return self._low

    @property
    def high(self):
        return self._high

    def narrowed(self, width):
        """The same root with bounds that differ by at most a width."""
        most = as_ratio(width)
        terms = whole_terms(self._polynomial)
        low, high = self._low, self._high
        side = sign_at(terms, low)
        while most < high - low:
            low, high = _halved(terms, side, low, high)
        return Root(self._polynomial, low, high)

    def sign_of(self, polynomial):
        """The sign of the value of a polynomial at the root."""
        other = whole_terms(polynomial)
        if self._low == self._high:
            return sign_at(other, self._low)
        return sign_at_root(whole_terms(self._polynomial), self._low, self._high, other)

    def against(self, number):
        """1, 0 or -1 if the root is greater than a number, equal to it, or less."""
        place = as_ratio(number)
        if self._low == self._high:
            return sign(self._low - place)
        if place <= self._low:
            return 1
        if self._high <= place:
            return -1
        terms = whole_terms(self._polynomial)
        return sign_at(terms, place) * sign_at(terms, self._low)

    def __eq__(self, other):
        return isinstance(other, Root) and _compared(self, other) == 0

    def __lt__(self, other):
        if not isinstance(other, Root):
            return NotImplemented
        return _compared(self, other) < 0


def root_count(polynomial, low, high):
    """The number of different roots above `low` and at most `high`."""
    chain = _chain_of(polynomial)
    first, last = _stretch(low, high)
    return root_total(chain, first, last)


def roots(polynomial, low, high):
    """The ascending list of the roots from `low` to `high`, each once."""
    chain = _chain_of(polynomial)
    first, last = _stretch(low, high)
    found = []
    if sign_at(chain[0], first) == 0:
        found.append(Root(polynomial, first, first))
    for start, end in _parted_bounds(chain, first, last):
        found.append(Root(polynomial, start, end))
    return found


def cells(polynomials, low, high):
    """The numbers between two bounds, parted by the roots of several polynomials."""
    first, last = _stretch(low, high)
    marks = []
    for polynomial in polynomials:
        if len(polynomial) > 0:
            marks = _merged(marks, _inner_roots(polynomial, first, last))
    found = []
    before = _root_at(first)
    for mark in marks:
        found.append(_between(before, mark))
        found.append(("at", mark))
        before = mark
    found.append(_between(before, _root_at(last)))
    return found


def nowhere_below(polynomial):
    """Whether the value of a polynomial is at least 0 at all numbers from 0 to 1."""
    # Between two roots the sign stays the same, and the values at the roots
    # and at 0 and 1 cannot be below 0 if the ones beside them are not.
    stretches = [cell for cell in cells([polynomial], 0, 1) if cell[0] == "between"]
    return all([sign(polynomial.worth(cell[1])) >= 0 for cell in stretches])


def angle(m):
    """The angle number of the plane of a number."""
    square = as_ratio(m) * m
    cosine = (Ratio(1) - square).over(square + 1)
    return cosine * cosine


def angle_in(low, high):
    """A Ratio between 0 and 1 whose angle number lies between two numbers."""
    least, most = _stretch(low, high)
    if least < 0 or not most <= 1:
        raise BadStretch()
    near, far = Ratio(0), Ratio(1)
    middle = Ratio(1, 2)
    turn = angle(middle)
    while turn <= least or most <= turn:
        # The angle number falls as the Ratio grows.
        if most <= turn:
            near = middle
        else:
            far = middle
        middle = (near + far).over(2)
        turn = angle(middle)
    return middle


def _chain_of(polynomial):
    if len(polynomial) == 0:
        raise ZeroPolynomial()
    return root_chain(whole_terms(polynomial))


def _stretch(low, high):
    first, last = as_ratio(low), as_ratio(high)
    if not first < last:
        raise BadStretch()
    return first, last


def _has_one_root(chain, low, high):
    if high < low:
        return False
    at_low = 1 if sign_at(chain[0], low) == 0 else 0
    return at_low + root_total(chain, low, high) == 1


def _halved(terms, side, low, high):
    """The bounds of the half in which the only root is, where the sign at `low` is `side`."""
    middle = (low + high).over(2)
    beside = sign_at(terms, middle)
    if beside == 0:
        return middle, middle
    if beside == side:
        return middle, high
    return low, middle


def _compared(one, other):
    """1, 0 or -1 if the first root is greater, equal or less."""
    terms, others = whole_terms(one.polynomial), whole_terms(other.polynomial)
    side, far_side = sign_at(terms, one.low), sign_at(others, other.low)
    low, high = one.low, one.high
    far_low, far_high = other.low, other.high
    # Bounds that are a little nearer tell most roots apart, and much faster
    # than the sign of a polynomial at a root does.
    for _ in range(HALVINGS):
        if high < far_low:
            return -1
        if far_high < low:
            return 1
        low, high = _halved(terms, side, low, high)
        far_low, far_high = _halved(others, far_side, far_low, far_high)
    return _compared_by_signs(one, other)


def _compared_by_signs(one, other):
    if one.against(other.low) < 0:
        return -1
    if one.against(other.high) > 0:
        return 1
    if other.low == other.high:
        return 0
    # From the one bound to the other, the polynomial of the second root
    # changes its sign at this root and nowhere else.
    return -one.sign_of(other.polynomial) * sign_at(whole_terms(other.polynomial), other.low)


def _parted_bounds(chain, low, high):
    """Ascending bounds, each for one of the roots above `low` and at most `high`."""
    found = []
    waiting = [(low, changes(chain, low), high, changes(chain, high))]
    while len(waiting) > 0:
        start, at_start, end, at_end = waiting.pop()
        many = at_start - at_end
        if many == 1 and sign_at(chain[0], end) == 0:
            found.append((end, end))
        elif many == 1 and sign_at(chain[0], start) != 0:
            found.append((start, end))
        elif many > 0:
            middle = (start + end).over(2)
            at_middle = changes(chain, middle)
            waiting.append((middle, at_middle, end, at_end))
            waiting.append((start, at_start, middle, at_middle))
    return found


def _inner_roots(polynomial, low, high):
    found = roots(polynomial, low, high)
    return [root for root in found if root.against(low) > 0 and root.against(high) < 0]


def _root_at(ratio):
    return Root(Polynomial([-ratio, 1]), ratio, ratio)


def _merged(marks, others):
    """The Roots of two ascending lists in one such list, each once."""
    found = []
    at = 0
    for mark in marks:
        side = -1
        while at < len(others) and side < 0:
            side = _compared(others[at], mark)
            if side < 0:
                found.append(others[at])
            if side <= 0:
                at = at + 1
        found.append(mark)
    return found + others[at:]


def _between(one, other):
    """The cell between two Roots, the first of which is less."""
    terms, others = whole_terms(one.polynomial), whole_terms(other.polynomial)
    side, far_side = sign_at(terms, one.low), sign_at(others, other.low)
    low, high = one.low, one.high
    far_low, far_high = other.low, other.high
    while far_low <= high:
        low, high = _halved(terms, side, low, high)
        far_low, far_high = _halved(others, far_side, far_low, far_high)
    third = (far_low - high).over(3)
    return "between", high + third, far_low - third

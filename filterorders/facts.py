"""Facts about two filters that are not known, and what follows from them."""

from filterorders.claims import Claim
from filterorders.errors import BadStretch, Clash
from filterorders.ratios import Ratio, as_ratio
from filterorders.roots import angle_in, cells
from filterorders.tables import LINES


class Facts:
    """Formulas that are nothing, never negative, not nothing and somewhere negative for two filters."""

    def __init__(self, *, nothing=(), never_negative=(), not_nothing=(), somewhere_negative=()):
        self._nothing = tuple(nothing)
        self._never_negative = tuple(never_negative)
        self._not_nothing = tuple(not_nothing)
        self._somewhere_negative = tuple(somewhere_negative)
        # What has to be so on each part of the filters, and what must not be so on some part.
        self._rules = _claims(self._nothing, self._never_negative)
        self._denied = _claims(self._not_nothing, self._somewhere_negative)

    @property
    def nothing(self):
        return self._nothing

    @property
    def never_negative(self):
        return self._never_negative

    @property
    def not_nothing(self):
        return self._not_nothing

    @property
    def somewhere_negative(self):
        return self._somewhere_negative

    def lines(self):
        """The names of the allowed lines."""
        return [name for name in LINES if all([rule.on_line(name) for rule in self._rules])]

    def allows(self, number):
        """Whether a number is an allowed angle number."""
        turn = as_ratio(number)
        if turn <= 0 or not turn < 1:
            raise BadStretch()
        return all([rule.on_plane(turn) for rule in self._rules])

    def clashes(self):
        """Whether no two filters have all facts."""
        return _witnesses(_allowed_places(self._rules, self._denied), len(self._denied)) is None

    def verdict(self, formula, *, sign_only=False):
        """Whether a claim is so for all, for none or for some of the pairs of filters with all facts."""
        places = self._places_with(Claim(formula, sign_only))
        if self._chosen(places, True) is None:
            return "barred"
        if self._chosen(places, False) is None:
            return "sure"
        return "open"

    def model(self, formula, holds, *, sign_only=False):
        """Parts of two filters that have all facts, and for which a claim is so or not; or None."""
        chosen = self._chosen(self._places_with(Claim(formula, sign_only)), holds)
        return None if chosen is None else [_part_of(place) for place in chosen]

    def stretches(self):
        """The allowed angle numbers, as stretches with their ends and whether these belong to them."""
        parted = _parted(self._rules)
        ends = [Ratio(0)] + [cell[1] for cell in parted if cell[0] == "at"] + [Ratio(1)]
        so = _all_along(self._rules, parted)
        found = []
        for at, allowed in enumerate(so):
            # Cells between two ends and cells at an end take turns.
            first, last, at_end = ends[(at + 1) // 2], ends[at // 2 + 1], at % 2 == 1
            has_first = at_end
            if allowed and at > 0 and so[at - 1]:
                first, has_first = found.pop()[:2]
            if allowed:
                found.append((first, has_first, last, at_end))
        return found

    def _places_with(self, claim):
        """The allowed places; whether the claim is so there is told last."""
        places = _allowed_places(self._rules, self._denied + [claim])
        if _witnesses(places, len(self._denied)) is None:
            raise Clash()
        return places

    def _chosen(self, places, holds):
        """Lines and cells of filters for which the last claim is so or is not; None if there are none."""
        if holds:
            return _witnesses([place for place in places if place[1][-1]], len(self._denied))
        return _witnesses(places, len(self._denied) + 1)


def _claims(nothing, never_negative):
    return [Claim(formula, False) for formula in nothing] + [Claim(formula, True) for formula in never_negative]


def _parted(claims):
    """The numbers between 0 and 1, parted so that each claim is so in a whole cell or nowhere in it."""
    return cells([polynomial for claim in claims for polynomial in claim.polynomials()], 0, 1)


def _all_along(claims, parted):
    """Whether all claims are so in each of the cells."""
    rows = [claim.along(parted) for claim in claims]
    return [all([row[at] for row in rows]) for at in range(len(parted))]


def _allowed_places(rules, others):
    """The lines and the cells where all rules are so, each with a list that tells which others are so there."""
    found = []
    for name in LINES:
        if all([rule.on_line(name) for rule in rules]):
            found.append((("line", name), [claim.on_line(name) for claim in others]))
    parted = _parted(rules + others)
    rows = [claim.along(parted) for claim in others]
    for at, allowed in enumerate(_all_along(rules, parted)):
        if allowed:
            found.append((parted[at], [row[at] for row in rows]))
    return found


def _witnesses(places, many):
    """Lines and cells such that each of the first claims is not so at one of them; None if there are none."""
    if len(places) == 0:
        return None
    chosen = []
    for which in range(many):
        without = [at for at, place in enumerate(places) if not place[1][which]]
        if len(without) == 0:
            return None
        if without[0] not in chosen:
            chosen.append(without[0])
    # Two filters have at least one part.
    return [places[at][0] for at in chosen] if many > 0 else [places[0][0]]


def _part_of(place):
    """The part of filters that stands for a line or for a cell of angle numbers."""
    if place[0] == "line":
        return place
    if place[0] == "between":
        return "plane", angle_in(place[1], place[2])
    root = place[1]
    return "root", root.polynomial, root.low, root.high

"""Pairs of filters taken apart into lines and planes, and put together from them."""

from filterorders.errors import BadCounts, BadTable, NotFilter
from filterorders.polynomials import Polynomial
from filterorders.ratios import Ratio, as_ratio, is_whole
from filterorders.tables import LINES, LONGEST, Table
from filterorders.tables import beside, check_filters, held, is_filter, line, made_table, meet, plane, turn_of


def pieces(p, q):
    """The filters of the lines of each name, and of the planes."""
    check_filters(p, q)
    off_p, off_q = held(p), held(q)
    found = {"both": meet(p, q), "p": meet(p, off_q), "q": meet(off_p, q), "none": meet(off_p, off_q)}
    rest = Table.unit(len(p))
    for name in LINES:
        rest = rest - found[name]
    found["planes"] = rest
    return found


def counts(p, q):
    """The number of the lines of each name, and of the planes."""
    found = {name: table.trace().top for name, table in pieces(p, q).items()}
    found["planes"] = found["planes"] // 2
    return found


def angles(p, q):
    """The product of the polynomials x - t for the angle numbers t of all planes."""
    many = counts(p, q)
    # The trace of k factors pq is the sum of the k-th powers of the angle
    # numbers, plus 1 for each line "both".
    powers = [trace - many["both"] for trace in traces(p, q)[3:]]
    terms = [Ratio(1)]
    for size in range(1, many["planes"] + 1):
        total = Ratio(0)
        for at in range(size):
            total = total - powers[at] * terms[size - 1 - at]
        # Newton's identities tell the coefficients from the sums of powers.
        terms.append(total.over(size))
    return Polynomial(terms[::-1])


def alike(one, other):
    """Whether one of two pairs can be rotated into the other."""
    return unlike(one, other) is None


def traces(p, q):
    """The length, the traces of p and q, and those of pq, pqpq, up to as many factors as the length."""
    check_filters(p, q)
    found = [Ratio(len(p)), p.trace(), q.trace()]
    both = p * q
    power = Table.unit(len(p))
    for _ in range(len(p)):
        power = power * both
        found.append(power.trace())
    return found


def unlike(one, other):
    """None, or the first index at which the lists of traces of two pairs differ."""
    # No pair's lengths are compared before all four tables are known to be filters.
    if not all([is_filter(table) for table in [*one, *other]]):
        raise NotFilter()
    p, q = one
    next_p, next_q = other
    for at, (left, right) in enumerate(zip(traces(p, q), traces(next_p, next_q))):
        if left != right:
            return at
    return None


def pair_of(counts, numbers):
    """The pair of so many lines, and then of the planes of numbers."""
    if not all([name in list(LINES) and is_whole(many) and many >= 0 for name, many in counts.items()]):
        raise BadCounts()
    ratios = [as_ratio(number) for number in numbers]
    if not 1 <= sum(list(counts.values())) + 2 * len(ratios) <= LONGEST:
        raise BadTable()
    parts = []
    for name in LINES:
        parts = parts + [line(name) for _ in range(counts.get(name, 0))]
    parts = parts + [plane(ratio) for ratio in ratios]
    pair = parts[0]
    for part in parts[1:]:
        pair = beside(pair, part)
    return pair


def turn_table(length, first, second, m):
    """The table that turns two coordinates as the plane of a number is turned."""
    cosine, sine = turn_of(m)
    rows = [list(row) for row in Table.unit(length).rows()]
    rows[first][first], rows[first][second] = cosine, -sine
    rows[second][first], rows[second][second] = sine, cosine
    return made_table(rows)


def turned(pair, table):
    """The pair that is turned by a table."""
    p, q = pair
    check_filters(p, q)
    back = table.mirror()
    if table * back != Table.unit(len(table)):
        raise BadTable()
    return table * p * back, table * q * back

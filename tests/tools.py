"""What several tests need: values to try, and simple ways to make and check what the package reckons with."""

from fractions import Fraction

from filterorders.formulas import Formula
from filterorders.polynomials import Polynomial
from filterorders.ratios import Ratio
from filterorders.tables import Table, filter_of

NOT_NUMBERS = [True, False, None, "1", "", b"1", 1.0, 0.5, 1j, [], [1], (1,), {}, {1: 2}, Fraction(1, 2), object(), int]
BIG = 10 ** 40 - 1
PRIME = 10 ** 39 + 3
ROWS = ["", "p", "q", "pq", "qp", "pqp", "qpq", "pqpq", "qpqp", "pqpqp", "qpqpq", "pqpqpq", "qpqpqp"]


def ratio(value):
    value = Fraction(value)
    return Ratio(value.numerator, value.denominator)


def fraction(value):
    return Fraction(value.top, value.bottom)


def fractions_of(polynomial):
    return [fraction(term) for term in polynomial.terms()]


def polynomial(*values):
    return Polynomial([ratio(value) for value in values])


def with_roots(*places):
    found = Polynomial([1])
    for place in places:
        found = found * polynomial(-Fraction(place), 1)
    return found


def read(text):
    return Formula.read(text)


def table(*rows):
    return Table([[ratio(item) for item in row] for row in rows])


def zeros(length):
    return Table([[0] * length for _ in range(length)])


def items_of(made):
    """The numbers of a table as lists of Fractions."""
    return [[fraction(item) for item in row] for row in made.rows()]


def beam_filter(*beams):
    """The filter of some beams of numbers that Fraction takes."""
    return filter_of(len(beams[0]), [[ratio(item) for item in beam] for beam in beams])


def product(one, other):
    """The product of two lists of rows, straight from its definition."""
    size = range(len(one))
    return [[sum(one[row][at] * other[at][column] for at in size) for column in size] for row in size]


def sum_of(one, other, factor=1):
    return [[left + factor * right for left, right in zip(row, behind)] for row, behind in zip(one, other)]


def unit_rows(length):
    return [[Fraction(row == column) for column in range(length)] for row in range(length)]


def value_rows(terms, p, q):
    """The value of a sum of rows for two filters as lists of Fractions, letter by letter."""
    filters = {"p": items_of(p), "q": items_of(q)}
    total = [[Fraction(0)] * len(p) for _ in range(len(p))]
    for row, number in terms.items():
        made = unit_rows(len(p))
        for letter in row:
            made = product(made, filters[letter])
        total = sum_of(total, made, Fraction(number))
    return total


def small_number(source):
    return Fraction(source.randint(-5, 5), source.choice([1, 1, 2, 3]))


def large_number(source):
    return Fraction(source.choice([-1, 1]) * source.randint(10 ** 39, BIG), source.randint(10 ** 39, BIG))


def some_beams(source, many, length, number=small_number):
    return [[ratio(number(source)) for _ in range(length)] for _ in range(many)]


def some_filter(source, length, many=None, number=small_number):
    many = source.randint(0, length) if many is None else many
    return filter_of(length, some_beams(source, many, length, number))


def some_formula(source, many=5, number=small_number, longest=6):
    rows = [row for row in ROWS if len(row) <= longest]
    return Formula({row: ratio(number(source)) for row in source.sample(rows, min(many, len(rows)))})


def passed_on(answer, p, q, beam):
    """What the filter of an answer leaves of a beam, as Fractions."""
    rows = items_of(p if answer in "pP" else q)
    sent = [sum(left * Fraction(right) for left, right in zip(row, beam)) for row in rows]
    return sent if answer in "pq" else [before - after for before, after in zip(beam, sent)]


def strength(beam):
    return sum(Fraction(item) * Fraction(item) for item in beam)


def share_of(row, p, q, beam):
    """The share of a row as a Fraction, straight from its definition."""
    start = [fraction(item) if isinstance(item, Ratio) else Fraction(item) for item in beam]
    left = start
    for answer in row:
        left = passed_on(answer, p, q, left)
    return strength(left) / strength(start)


def value_at(formula, turn):
    """The value on the plane of an angle number, which may be any Fraction, but with stretched coordinates.

    The stretching makes all numbers rational; it keeps the trace, the determinant and zeros.
    """
    filters = {"p": [[1, 0], [0, 0]], "q": [[turn, 1], [turn * (1 - turn), 1 - turn]]}
    total = [[Fraction(0)] * 2 for _ in range(2)]
    for row, number in formula.terms().items():
        made = unit_rows(2)
        for letter in row:
            made = product(made, filters[letter])
        total = sum_of(total, made, fraction(number))
    return total


def is_nothing(rows):
    return all(item == 0 for row in rows for item in row)


def is_never_negative(rows):
    """Whether a table of one or two rows, given as Fractions, has no reading below 0."""
    if len(rows) == 1:
        return rows[0][0] >= 0
    (left, above), (below, right) = rows
    return left + right >= 0 and left * right - above * below >= 0


def fraction_rows(formula, p, q):
    return value_rows({row: fraction(number) for row, number in formula.terms().items()}, p, q)


def has_no_reading_below_0(rows):
    """Whether a table that is its own mirror, given as Fractions, has no reading below 0: by elimination."""
    rest = [list(row) for row in rows]
    while rest:
        if any(row[at] < 0 for at, row in enumerate(rest)):
            return False
        places = [at for at, row in enumerate(rest) if row[at] > 0]
        if not places:
            return is_nothing(rest)
        pivot = places[0]
        others = [at for at in range(len(rest)) if at != pivot]
        rest = [
            [rest[at][to] - rest[at][pivot] * rest[pivot][to] / rest[pivot][pivot] for to in others] for at in others
        ]
    return True

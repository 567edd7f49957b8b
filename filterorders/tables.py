"""Tables, the filters among them, and the values of formulas for two filters."""

from math import lcm

from filterorders.beams import beam_of, has_numbers, inner, inner_over, whole_beam
from filterorders.errors import BadTable, NoLine, NotFilter, UnlikeTables
from filterorders.ratios import Ratio, as_ratio
from filterorders.spaces import across, basis_of, upright, whole_inner

LONGEST = 8
LINES = {"both": (1, 1), "p": (1, 0), "q": (0, 1), "none": (0, 0)}


class Table:
    """A table of as many rows as there are numbers in each of them."""

    def __init__(self, rows):
        if not isinstance(rows, (list, tuple)) or not 1 <= len(rows) <= LONGEST:
            raise BadTable()
        if not all([has_numbers(row, len(rows)) for row in rows]):
            raise BadTable()
        self._rows = tuple([tuple([as_ratio(item) for item in row]) for row in rows])

    @classmethod
    def unit(cls, length):
        """The unit table of a length."""
        return made_table([[Ratio(1 if row == column else 0) for column in range(length)] for row in range(length)])

    def rows(self):
        """The list of the rows, tuples of Ratios."""
        return list(self._rows)

    def __len__(self):
        return len(self._rows)

    def __eq__(self, other):
        return isinstance(other, Table) and self._rows == other._rows

    def __add__(self, other):
        return made_table([[left + right for left, right in pairs] for pairs in _items_of_both(self, other)])

    def __sub__(self, other):
        return made_table([[left - right for left, right in pairs] for pairs in _items_of_both(self, other)])

    def __mul__(self, other):
        _check_lengths(self, other)
        rows = [whole_beam(row) for row in self._rows]
        columns = [whole_beam(column) for column in zip(*other._rows)]
        return made_table([[inner_over(row, column) for column in columns] for row in rows])

    def mirror(self):
        """The table that has the rows as columns."""
        return made_table(list(zip(*self._rows)))

    def trace(self):
        """The sum of the numbers on the diagonal."""
        total = Ratio(0)
        for at, row in enumerate(self._rows):
            total = total + row[at]
        return total

    def sent(self, beam):
        """The list of numbers to which the table sends a list of numbers."""
        numbers = beam_of(beam, len(self._rows))
        return [inner(row, numbers) for row in self._rows]


def made_table(rows):
    """The table with rows of Ratios that need no check.

    A table that the package makes may be longer than those that callers make.
    """
    table = Table(((0,),))
    table._rows = tuple([tuple(row) for row in rows])
    return table


def is_filter(table):
    """Whether a table is equal to its mirror and to its product with itself."""
    return table == table.mirror() and table == table * table


def check_filters(p, q):
    """Raises an error unless both tables are filters of one length."""
    if not is_filter(p) or not is_filter(q):
        raise NotFilter()
    _check_lengths(p, q)


def filter_of(length, beams):
    """The filter whose space consists of the sums of multiples of beams."""
    numbers = [beam_of(beam, length) for beam in beams]
    basis = basis_of([whole_beam(beam)[0] for beam in numbers])
    if 2 * len(basis) <= length:
        return _filter_over([beam for _, beam in basis], length)
    # The fewer the beams, the fewer digits the numbers on the way have.
    return Table.unit(length) - _filter_over(across(basis, length), length)


def held(table):
    """The opposite of a filter."""
    if not is_filter(table):
        raise NotFilter()
    return Table.unit(len(table)) - table


def meet(p, q):
    """The filter whose space consists of the beams in the spaces of both filters."""
    check_filters(p, q)
    return held(joined(held(p), held(q)))


def joined(p, q):
    """The filter whose space consists of the sums of beams of the two spaces."""
    check_filters(p, q)
    return filter_of(len(p), p.rows() + q.rows())


def value(formula, p, q):
    """The value of a formula for two filters, a table."""
    check_filters(p, q)
    terms = formula.terms()
    one, other = Table.unit(len(p)), Table.unit(len(p))
    front, back = "", ""
    total = _scaled(one, terms.get("", 0))
    for _ in range(formula.degree()):
        # Each row is a letter in front of the row before that begins with the other letter.
        one, other = p * other, q * one
        front, back = "p" + back, "q" + front
        total = total + _scaled(one, terms.get(front, 0)) + _scaled(other, terms.get(back, 0))
    return total


def line(name):
    """The two filters of a line."""
    if not isinstance(name, str) or name not in LINES:
        raise NoLine(name)
    first, second = LINES[name]
    return Table([[first]]), Table([[second]])


def turn_of(m):
    """The cosine and the sine of the plane of a number."""
    square = as_ratio(m) * m
    bottom = square + 1
    return (Ratio(1) - square).over(bottom), (as_ratio(m) * 2).over(bottom)


def plane(m):
    """The two filters of the plane of a number."""
    cosine, sine = turn_of(m)
    turned = [[cosine * cosine, cosine * sine], [cosine * sine, sine * sine]]
    return Table([[1, 0], [0, 0]]), Table(turned)


def beside(pair, other):
    """The two filters of two pairs beside one another."""
    p, q = pair
    next_p, next_q = other
    return _table_beside(p, next_p), _table_beside(q, next_q)


def same(one, other):
    """Whether two formulas have the same value for all pairs of filters."""
    return one == other


def parting(one, other):
    """None, or two filters for which the values of two formulas differ."""
    if same(one, other):
        return None
    for name in LINES:
        if _differ(one, other, line(name)):
            return line(name)
    bottom = 2
    # Formulas that are not the same differ on all planes but a few.
    while not _differ(one, other, plane(Ratio(1, bottom))):
        bottom = bottom + 1
    return plane(Ratio(1, bottom))


def _check_lengths(one, other):
    if len(one) != len(other):
        raise UnlikeTables()


def _items_of_both(one, other):
    _check_lengths(one, other)
    return [list(zip(row, behind)) for row, behind in zip(one.rows(), other.rows())]


def _scaled(table, number):
    return made_table([[item * number for item in row] for row in table.rows()])


def _filter_over(beams, length):
    """The filter of integer beams, none of which is a sum of multiples of the others."""
    parts = [(beam, whole_inner(beam, beam)) for beam in upright(beams)]
    bottom = 1
    for _, strength in parts:
        bottom = lcm(bottom, strength)
    tops = [[0] * length for _ in range(length)]
    for beam, strength in parts:
        tops = _with_part(tops, beam, bottom // strength)
    return made_table([[Ratio(top, bottom) for top in row] for row in tops])


def _with_part(tops, beam, factor):
    """The integers of a table plus a factor times the products of each two integers of a beam."""
    return [[top + factor * left * right for top, right in zip(row, beam)] for row, left in zip(tops, beam)]


def _table_beside(one, other):
    before = [Ratio(0) for _ in one.rows()]
    behind = [Ratio(0) for _ in other.rows()]
    return made_table([list(row) + behind for row in one.rows()] + [before + list(row) for row in other.rows()])


def _differ(one, other, pair):
    p, q = pair
    return value(one, p, q) != value(other, p, q)

"""Formulas: sums of rows of the letters p and q, each multiplied by a number."""

from filterorders.errors import BadRow, BadText
from filterorders.ratios import Ratio, as_ratio


class Formula:
    """A sum of rows, each multiplied by a number; only its form is kept."""

    def __init__(self, terms):
        for row in terms:
            if not _is_row(row):
                raise BadRow(row)
        self._terms = _form_of({row: as_ratio(number) for row, number in terms.items()})

    @classmethod
    def read(cls, text):
        """The formula with a text."""
        formula = cls(_terms_of(text))
        # Every other way to write the same formula is not its text.
        if formula.text() != text:
            raise BadText()
        return formula

    def terms(self):
        """The form: shortened rows with their numbers, the shorter rows first."""
        return dict(self._terms)

    def __eq__(self, other):
        return isinstance(other, Formula) and self._terms == other._terms

    def __add__(self, other):
        total = dict(self._terms)
        for row, number in other._terms.items():
            total[row] = total.get(row, Ratio(0)) + number
        return Formula(total)

    def __sub__(self, other):
        return self + -other

    def __mul__(self, other):
        total = {}
        for row, number in self._terms.items():
            for behind, factor in other._terms.items():
                whole = row + behind
                total[whole] = total.get(whole, Ratio(0)) + number * factor
        return Formula(total)

    def __neg__(self):
        return Formula({row: -number for row, number in self._terms.items()})

    def times(self, number):
        """The formula with all numbers multiplied by a number."""
        factor = as_ratio(number)
        return Formula({row: worth * factor for row, worth in self._terms.items()})

    def mirror(self):
        """The formula with all rows read backwards."""
        return Formula({row[::-1]: number for row, number in self._terms.items()})

    def is_mirror(self):
        """Whether the formula is equal to its mirror."""
        return self == self.mirror()

    def degree(self):
        """The number of letters of the longest row of the form."""
        return max([len(row) for row in self._terms], default=0)

    def text(self):
        """The numbers and rows of the form, with signs between them."""
        if len(self._terms) == 0:
            return "0"
        found = ""
        for row, number in self._terms.items():
            if number < 0:
                found = found + ("-" if found == "" else " - ") + _term_text(row, -number)
            else:
                found = found + ("" if found == "" else " + ") + _term_text(row, number)
        return found


def opposite(formula):
    """The formula of the empty row minus the given one."""
    return Formula({"": 1}) - formula


def _is_row(given):
    return isinstance(given, str) and all([letter in "pq" for letter in given])


def _shortened(row):
    found = ""
    for letter in row:
        if not found.endswith(letter):
            found = found + letter
    return found


def _form_of(terms):
    total = {}
    for row, number in terms.items():
        short = _shortened(row)
        total[short] = total.get(short, Ratio(0)) + number
    # Sorting by length leaves the rows of one length in alphabetical order.
    in_order = sorted(sorted(total, key=str), key=len)
    return {row: total[row] for row in in_order if total[row] != 0}


def _term_text(row, number):
    if row == "":
        return number.text()
    if number == 1:
        return row
    return number.text() + " " + row


def _terms_of(text):
    """The rows and numbers of a text; texts that are nearly right may pass."""
    behind = text.removeprefix("-")
    factor = 1 if behind == text else -1
    terms = {}
    words = []
    for word in behind.split(" ") + ["+"]:
        if word == "+" or word == "-":
            row, number = _read_term(words)
            terms[row] = number * factor
            factor = 1 if word == "+" else -1
            words = []
        else:
            words.append(word)
    return terms


def _read_term(words):
    """The row and the number of the words between two signs."""
    if len(words) == 2 and _is_row(words[1]):
        return words[1], Ratio.read(words[0])
    if len(words) != 1:
        raise BadText()
    if words[0] != "" and _is_row(words[0]):
        return words[0], Ratio(1)
    return "", Ratio.read(words[0])

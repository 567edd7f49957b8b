"""The errors of the package: one class for each kind of failure."""


class FilterError(ValueError):
    """What all errors of the package have in common."""


class ByZero(FilterError):
    """A quotient by 0."""


class BadNumber(FilterError):
    """A value that is not a number of the kind that is needed."""

    def __init__(self, given):
        self.given = given


class BadText(FilterError):
    """A string that is not the text of what was to be read."""


class ZeroPolynomial(FilterError):
    """The zero polynomial, where only another one will do."""


class BadRoot(FilterError):
    """Bounds between which there is no root, or more than one."""


class BadStretch(FilterError):
    """Bounds that are not in order, or out of range."""


class BadRow(FilterError):
    """A key that is not a row of the letters p and q."""

    def __init__(self, row):
        self.row = row


class BadTable(FilterError):
    """Rows that are not those of a table, or a table that does not fit."""


class NoLine(FilterError):
    """A value that is not the name of a line."""

    def __init__(self, name):
        self.name = name


class UnlikeTables(FilterError):
    """Tables of different lengths."""


class BadBeam(FilterError):
    """A value that is not a beam of the length that is needed."""


class NotFilter(FilterError):
    """A table that is not a filter."""


class NotMirror(FilterError):
    """A formula that is not its own mirror."""


class BadCounts(FilterError):
    """Counts of lines with a wrong name or a wrong number."""


class BadAnswer(FilterError):
    """A value that is not one of the letters of answers."""

    def __init__(self, answer):
        self.answer = answer


class BadShare(FilterError):
    """A value that is not a number from 0 to 1."""

    def __init__(self, given):
        self.given = given


class Never(FilterError):
    """An answer that has the chance 0."""

    def __init__(self, answer):
        self.answer = answer


class BadLine(FilterError):
    """A line of a text that is wrong or not there, by its number."""

    def __init__(self, line):
        self.line = line


class Clash(FilterError):
    """Facts that no two filters have."""


class NothingToUndo(FilterError):
    """No step that could be taken back."""


class NothingToRedo(FilterError):
    """No step that could be made again."""

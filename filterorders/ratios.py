"""Exact quotients of integers."""

from math import gcd

from filterorders.errors import BadNumber, BadText, ByZero

# Python refuses to write or read integers of some thousand digits at once,
# and quotients that the package returned may have more.
PIECE_DIGITS = 64
PIECE = 10 ** 64


class Ratio:
    """An exact quotient of two integers, in lowest terms."""

    def __init__(self, top, bottom=1):
        if bottom == 0:
            raise ByZero()
        shared = gcd(top, bottom)
        if bottom < 0:
            shared = -shared
        self._top = top // shared
        self._bottom = bottom // shared

    @classmethod
    def read(cls, text):
        top, slash, bottom = text.partition("/")
        digits = top.removeprefix("-")
        if not _has_only_digits(digits):
            raise BadText()
        if slash == "":
            bottom = "1"
        if not _has_only_digits(bottom) or _integer_of(bottom) == 0:
            raise BadText()
        size = _integer_of(digits)
        ratio = cls(size if digits == top else -size, _integer_of(bottom))
        # Every other way to write the same quotient is not its text.
        if ratio.text() != text:
            raise BadText()
        return ratio

    @property
    def top(self):
        return self._top

    @property
    def bottom(self):
        return self._bottom

    def __eq__(self, other):
        if isinstance(other, Ratio):
            return self._top == other._top and self._bottom == other._bottom
        return is_whole(other) and self._bottom == 1 and self._top == other

    def __lt__(self, other):
        right = as_ratio(other)
        return self._top * right._bottom < right._top * self._bottom

    def __le__(self, other):
        right = as_ratio(other)
        return self._top * right._bottom <= right._top * self._bottom

    def __add__(self, other):
        right = as_ratio(other)
        return Ratio(self._top * right._bottom + right._top * self._bottom, self._bottom * right._bottom)

    def __sub__(self, other):
        right = as_ratio(other)
        return Ratio(self._top * right._bottom - right._top * self._bottom, self._bottom * right._bottom)

    def __mul__(self, other):
        right = as_ratio(other)
        return Ratio(self._top * right._top, self._bottom * right._bottom)

    def __neg__(self):
        return Ratio(-self._top, self._bottom)

    def over(self, number):
        """The quotient by a number."""
        right = as_ratio(number)
        return Ratio(self._top * right._bottom, self._bottom * right._top)

    def text(self):
        if self._bottom == 1:
            return _decimal(self._top)
        return _decimal(self._top) + "/" + _decimal(self._bottom)


def is_whole(given):
    """Whether a value is an integer; True and False are none."""
    return isinstance(given, int) and not isinstance(given, bool)


def is_number(given):
    """Whether a value is an integer or a Ratio."""
    return isinstance(given, Ratio) or is_whole(given)


def as_ratio(given):
    """The Ratio that is equal to a number."""
    if not is_number(given):
        raise BadNumber(given)
    return given if isinstance(given, Ratio) else Ratio(given)


def sign(number):
    """1, 0 or -1 for a number above 0, 0, and a number below 0."""
    top = as_ratio(number).top
    if top == 0:
        return 0
    return 1 if top > 0 else -1


def _has_only_digits(text):
    return text.isascii() and text.isdigit()


def _decimal(integer):
    if integer < 0:
        return "-" + _decimal(-integer)
    pieces = []
    while integer >= PIECE:
        integer, piece = divmod(integer, PIECE)
        pieces.append(str(piece).zfill(PIECE_DIGITS))
    pieces.append(str(integer))
    return "".join(pieces[::-1])


def _integer_of(digits):
    first = len(digits) % PIECE_DIGITS
    integer = int("0" + digits[:first])
    for at in range(first, len(digits), PIECE_DIGITS):
        integer = integer * PIECE + int(digits[at:at + PIECE_DIGITS])
    return integer

"""A desk: a beam that is sent through two filters, step by step."""

from filterorders.beams import inner
from filterorders.bounds import checked_beam
from filterorders.errors import BadAnswer, BadBeam, BadLine, BadText, Never, NothingToRedo, NothingToUndo
from filterorders.questions import ANSWERS, check_answers, is_answer, passed, share_left
from filterorders.ratios import Ratio
from filterorders.tables import LONGEST, Table, is_filter


class Trial:
    """A block at whose end a desk is as it was when the block began."""

    def __init__(self, desk):
        self._desk = desk
        self._steps = ()
        self._undone = ()

    def __enter__(self):
        self._steps = self._desk._steps
        self._undone = self._desk._undone
        return self._desk

    def __exit__(self, kind, value, trace):
        desk = self._desk
        desk._steps = self._steps
        desk._undone = self._undone


class Desk:
    """A beam that is sent through two filters."""

    def __init__(self, p, q, beam):
        self._start = checked_beam(p, q, beam)
        self._p = p
        self._q = q
        # Tuples of an answer and what it has left of the beam, those that have
        # been made and those that have been taken back. Steps make new tuples
        # instead of changing these, so that a trial can keep them.
        self._steps = ()
        self._undone = ()

    def ask(self, answer):
        """Lets an answer come about, and returns its chance."""
        if not is_answer(answer):
            raise BadAnswer(answer)
        before = self._now()
        left = passed(answer, self._p, self._q, before)
        strength = inner(left, left)
        if strength == 0:
            raise Never(answer)
        self._steps = self._steps + ((answer, left),)
        self._undone = ()
        return strength.over(inner(before, before))

    def __len__(self):
        return len(self._steps)

    def answers(self):
        """The answers of the steps."""
        return "".join([answer for answer, _ in self._steps])

    def beam(self):
        """What is left of the beam."""
        return list(self._now())

    def share(self):
        """The share of the row of the steps for the beam that was given."""
        left = self._now()
        return inner(left, left).over(inner(self._start, self._start))

    def chance(self, row):
        """The share of a row of answers for what is left of the beam."""
        check_answers([row])
        return share_left(row, self._p, self._q, self._now())

    def sure(self):
        """The answers whose chance is 1."""
        left = self._now()
        return "".join([answer for answer in ANSWERS if passed(answer, self._p, self._q, left) == left])

    def undo(self):
        """Takes back the last step."""
        if len(self._steps) == 0:
            raise NothingToUndo()
        self._undone = self._undone + self._steps[-1:]
        self._steps = self._steps[:-1]

    def redo(self):
        """Makes the step again that was taken back last."""
        if len(self._undone) == 0:
            raise NothingToRedo()
        self._steps = self._steps + self._undone[-1:]
        self._undone = self._undone[:-1]

    def trial(self):
        """An object for a `with` block, behind which the desk is as it was before."""
        return Trial(self)

    def supposed(self, row, other):
        """The chance of a row of answers after those of a row as further steps, which are not made."""
        with self.trial() as desk:
            for answer in row:
                desk.ask(answer)
            return desk.chance(other)

    def text(self):
        """The length, the rows of p and of q, the beam that was given and the answers, line by line."""
        rows = self._p.rows() + self._q.rows() + [self._start]
        lines = [" ".join([number.text() for number in row]) for row in rows]
        return "\n".join([str(len(self._p))] + lines + [answer for answer, _ in self._steps])

    def _now(self):
        return self._start if len(self._steps) == 0 else self._steps[-1][1]


def read_desk(text):
    """The desk with a text."""
    lines = text.split("\n")
    if lines[0] not in [str(many) for many in range(1, LONGEST + 1)]:
        raise BadLine(1)
    length = int(lines[0])
    p = _filter_from(lines, 2, length)
    q = _filter_from(lines, 2 + length, length)
    place = 2 + 2 * length
    numbers = _numbers_of(lines, place, length)
    try:
        desk = Desk(p, q, numbers)
    except BadBeam:
        raise BadLine(place)
    for at, answer in enumerate(lines[place:]):
        try:
            desk.ask(answer)
        except (BadAnswer, Never):
            raise BadLine(place + 1 + at)
    return desk


def _filter_from(lines, first, length):
    """The filter whose rows begin at a line."""
    table = Table([_numbers_of(lines, first + at, length) for at in range(length)])
    if not is_filter(table):
        raise BadLine(first)
    return table


def _numbers_of(lines, place, many):
    """The Ratios of a line."""
    if len(lines) < place:
        raise BadLine(place)
    words = lines[place - 1].split(" ")
    if len(words) != many:
        raise BadLine(place)
    try:
        return [Ratio.read(word) for word in words]
    except BadText:
        raise BadLine(place)

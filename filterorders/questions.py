"""Rows of answers: their shares of a beam, and the chances of lists of them."""

from filterorders.beams import inner
from filterorders.bounds import checked_beam, counter, never_negative
from filterorders.errors import BadAnswer
from filterorders.formulas import Formula, opposite
from filterorders.ratios import Ratio

ANSWERS = "pqPQ"
QUESTIONS = "pq"
NO_LETTERS = ("", 0, 0)


def share(row, p, q, beam):
    """The part of a beam's strength that passes the answers of a row, one after the other."""
    check_answers([row])
    return share_left(row, p, q, checked_beam(p, q, beam))


def row_formula(row):
    """The formula whose reading is the share of the row times the strength of the beam."""
    check_answers([row])
    found = Formula({"": 1})
    for answer in row + row[:-1][::-1]:
        found = found * _formula_of(answer)
    return found


def plain_row(row):
    """The first letter and the numbers of answers that agree with the one before and that do not.

    None if the row contradicts itself.
    """
    check_answers([row])
    before = ""
    agreed, changed = 0, 0
    for answer in row:
        if before != "" and answer != before:
            if answer.lower() == before.lower():
                return None
            if answer.islower() == before.islower():
                agreed = agreed + 1
            else:
                changed = changed + 1
        before = answer
    return row[:1], agreed, changed


def same_share(row, other):
    """Whether two rows have the same share for all filters and all beams."""
    return plain_row(row) == plain_row(other)


def at_least(row, other):
    """Whether the share of a row is at least that of another one, always."""
    one, two = plain_row(row), plain_row(other)
    if two is None or one == NO_LETTERS:
        return True
    if one is None:
        return False
    return one[0] == two[0] and one[1] <= two[1] and one[2] <= two[2]


def less(row, other):
    """None, or two filters and a beam for which the share of a row is less than that of another one."""
    return chance_less([row], [other])


def outcomes(questions):
    """All rows of answers to the questions of a string, yes before no."""
    for question in questions:
        if question not in QUESTIONS:
            raise BadAnswer(question)
    rows = [""]
    for question in questions:
        rows = [row + answer for row in rows for answer in (question, question.upper())]
    return rows


def chance(rows, p, q, beam):
    """The sum of the shares of a list of rows."""
    check_answers(rows)
    numbers = checked_beam(p, q, beam)
    total = Ratio(0)
    for row in rows:
        total = total + share_left(row, p, q, numbers)
    return total


def chance_formula(rows):
    """The sum of the formulas of a list of rows."""
    found = Formula({})
    for row in rows:
        found = found + row_formula(row)
    return found


def same_chance(rows, others):
    """Whether two lists of rows have the same chance for all filters and all beams."""
    # Readings are the same for all filters and beams only if the formulas are,
    # since both are their own mirrors.
    return chance_formula(rows) == chance_formula(others)


def parted_chance(rows, others):
    """None, or two filters and a beam for which two lists of rows have different chances."""
    found = chance_less(rows, others)
    return chance_less(others, rows) if found is None else found


def chance_at_least(rows, others):
    """Whether the chance of a list of rows is at least that of another one, always."""
    return never_negative(chance_formula(rows) - chance_formula(others))


def chance_less(rows, others):
    """None, or two filters and a beam for which the chance of a list of rows is less than that of another one."""
    return counter(chance_formula(rows) - chance_formula(others))


def is_answer(given):
    """Whether a value is one of the four letters of answers."""
    return isinstance(given, str) and len(given) == 1 and given in ANSWERS


def check_answers(rows):
    """Raises an error for the first character of the rows that is not an answer."""
    for row in rows:
        for answer in row:
            if answer not in ANSWERS:
                raise BadAnswer(answer)


def passed(answer, p, q, beam):
    """What is left of a beam of Ratios behind the filter of an answer."""
    sent = (p if answer.lower() == "p" else q).sent(beam)
    if answer.islower():
        return sent
    return [before - after for before, after in zip(beam, sent)]


def share_left(row, p, q, beam):
    """The share of a row for a beam of Ratios; nothing is checked."""
    left = beam
    for answer in row:
        left = passed(answer, p, q, left)
    return inner(left, left).over(inner(beam, beam))


def _formula_of(answer):
    yes = Formula({answer.lower(): 1})
    return yes if answer.islower() else opposite(yes)

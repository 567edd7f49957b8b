"""Points 50 to 53: a beam that is sent through two filters, steps taken back and made again, and trials."""

import random
import unittest
from fractions import Fraction

from filterorders.desk import Desk, read_desk
from filterorders.errors import BadAnswer, BadBeam, Never, NotFilter, NothingToRedo, NothingToUndo, UnlikeTables
from filterorders.questions import share
from filterorders.ratios import Ratio
from filterorders.tables import Table, filter_of, line, plane
from tests.test_filters import NOT_FILTERS
from tests.test_questions import WRONG_ROWS, some_beam, some_pairs
from tests.tools import NOT_NUMBERS, fraction, passed_on, share_of, strength, zeros

NOT_ANSWERS = [
    "", "x", "pq", "pp", " ", "p ", " p", "P\n", "PQ", "1", "R", None, True, False, 0, 1, 5, 1.5, b"p", ["p"], ("p",), {"p": 1}, {"p"}, object(),
    str, Ratio(1), Table.unit(1),
]


def desk_of(answers="", beam=(1, 0), pair=None):
    p, q = pair or plane(Ratio(1, 2))
    desk = Desk(p, q, beam)
    for answer in answers:
        desk.ask(answer)
    return desk


def state(desk):
    """All that a desk tells of its steps."""
    return desk.answers(), len(desk), desk.beam(), desk.share(), desk.sure(), desk.text()


def redone(desk):
    """The answers that can be made again, the next one first; none of them is made."""
    found = ""
    with desk.trial() as trial:
        while True:
            try:
                trial.redo()
            except NothingToRedo:
                return found
            found += trial.answers()[-1]


class DeskTest(unittest.TestCase):
    def check_kept(self, desk, before):
        """That a desk is as it was, and so is what can be made again."""
        self.assertEqual((state(desk), redone(desk)), before)

    def test_a_new_desk(self):
        p, q = plane(Ratio(1, 2))
        for beam in ([3, Ratio(1, 2)], (3, Ratio(1, 2))):
            desk = Desk(p=p, q=q, beam=beam)
            self.assertEqual((len(desk), desk.answers(), desk.beam(), desk.share()), (0, "", [3, Ratio(1, 2)], 1))
            self.assertIsInstance(desk.beam(), list)
            self.assertEqual([isinstance(item, Ratio) for item in desk.beam() + [desk.share()]], [True] * 3)

    def test_wrong_beams(self):
        p, q = plane(Ratio(1, 2))
        wrong = [[0, 0], (0, Ratio(0)), [], [1], [1, 2, 3], None, 5, "12", True] + [[1, given] for given in NOT_NUMBERS]
        for beam in wrong:
            with self.subTest(beam=beam), self.assertRaises(BadBeam):
                Desk(p, q, beam)

    def test_the_order_of_the_errors(self):
        for beam in (None, [0, 0], [1, 2]):
            for wrong in NOT_FILTERS:
                for pair in ((wrong, Table.unit(len(wrong))), (zeros(3), wrong)):
                    with self.assertRaises(NotFilter):
                        Desk(*pair, beam)
            with self.assertRaises(UnlikeTables):
                Desk(zeros(2), zeros(1), beam)

    def test_lists_are_copied(self):
        beam = [3, 4]
        desk = desk_of(beam=beam)
        beam[0] = 100
        desk.beam().append(5)
        told = desk.beam()
        told[0] = Ratio(7)
        self.assertEqual(desk.beam(), [3, 4])
        desk.ask("p")
        desk.beam().clear()
        self.assertEqual((desk.beam(), desk.text().split("\n")[5]), ([3, 0], "3 4"))

    def test_asking(self):
        source = random.Random(50)
        for p, q in some_pairs(13):
            beam = some_beam(source, len(p))
            desk = Desk(p, q, beam)
            left, row = [fraction(item) for item in beam], ""
            for _ in range(12):
                answer = source.choice("pqPQ")
                after = passed_on(answer, p, q, left)
                if strength(after) == 0:
                    before = state(desk), redone(desk)
                    with self.assertRaises(Never) as caught:
                        desk.ask(answer)
                    self.assertEqual(caught.exception.answer, answer)
                    self.check_kept(desk, before)
                else:
                    found = desk.ask(answer)
                    self.assertIsInstance(found, Ratio)
                    self.assertEqual(fraction(found), strength(after) / strength(left))
                    left, row = after, row + answer
                self.assertEqual((desk.answers(), len(desk)), (row, len(row)))
                self.assertEqual([fraction(item) for item in desk.beam()], left)
                self.assertEqual((fraction(desk.share()), desk.share()), (share_of(row, p, q, beam), share(row, p, q, beam)))
                self.assertEqual(desk.sure(), "".join(letter for letter in "pqPQ" if share_of(letter, p, q, left) == 1))

    def test_answers_of_the_chance_1(self):
        desk = desk_of()
        self.assertEqual((desk.ask("p"), desk.ask(answer="p"), desk.answers(), desk.beam()), (1, 1, "pp", [1, 0]))
        desk = desk_of("Q", (0, 1))
        self.assertEqual((desk.sure(), desk.ask("Q"), len(desk)), ("Q", 1, 2))
        for name, sure in (("both", "pq"), ("p", "pQ"), ("q", "qP"), ("none", "PQ")):
            desk = desk_of(beam=[5], pair=line(name))
            self.assertEqual(desk.sure(), sure)
            for answer in sure:
                self.assertEqual(desk.ask(answer), 1)
            self.assertEqual((desk.share(), desk.answers(), desk.beam()), (1, sure, [5]))
        self.assertEqual(desk_of(beam=(1, 1)).sure(), "")
        self.assertEqual(desk_of(beam=(1, 2, 0), pair=(filter_of(3, [(1, 2, 0)]), Table.unit(3))).sure(), "pq")

    def test_answers_of_the_chance_0(self):
        for row, never in (("", "P"), ("p", "P"), ("q", "Q"), ("pq", "Q"), ("qP", "p"), ("qpQ", "q")):
            desk = desk_of(row)
            before = state(desk), redone(desk)
            with self.assertRaises(Never) as caught:
                desk.ask(never)
            self.assertEqual(caught.exception.answer, never)
            self.check_kept(desk, before)

    def test_wrong_answers(self):
        for answers, back in (("", 0), ("qP", 0), ("qPq", 2)):
            desk = desk_of(answers)
            for _ in range(back):
                desk.undo()
            before = state(desk), redone(desk)
            for wrong in NOT_ANSWERS:
                with self.subTest(wrong=wrong), self.assertRaises(BadAnswer) as caught:
                    desk.ask(wrong)
                self.assertIs(caught.exception.answer, wrong)
                self.check_kept(desk, before)

    def test_errors_keep_what_can_be_made_again(self):
        desk = desk_of("pqP")
        desk.undo()
        desk.undo()
        for wrong in ("x", "P"):
            with self.assertRaises((BadAnswer, Never)):
                desk.ask(wrong)
        self.assertEqual((desk.answers(), redone(desk)), ("p", "qP"))

    def test_chances(self):
        source = random.Random(51)
        for p, q in some_pairs(14, 6):
            beam = some_beam(source, len(p))
            desk = Desk(p, q, beam)
            answer = [letter for letter in "pqPQ" if share_of(letter, p, q, beam) > 0][-1]
            desk.ask(answer)
            left = desk.beam()
            for row in ("", "p", "Q", "pq", "PQpq", "qQ", "pqpqpqpqpqpq"):
                found = desk.chance(row)
                self.assertIsInstance(found, Ratio)
                self.assertEqual(fraction(found), share_of(row, p, q, left))
                self.assertEqual(desk.chance(row=row), found)
            self.assertEqual((desk.answers(), desk.beam()), (answer, left))

    def test_wrong_rows(self):
        desk = desk_of("q")
        before = state(desk), redone(desk)
        for row, wrong in WRONG_ROWS.items():
            with self.subTest(row), self.assertRaises(BadAnswer) as caught:
                desk.chance(row)
            self.assertEqual(caught.exception.answer, wrong)
            self.check_kept(desk, before)

    def test_steps_are_tuples_of_their_own_desk(self):
        one, other = desk_of("q"), desk_of("q")
        one.ask("p")
        other.undo()
        self.assertEqual((one.answers(), other.answers()), ("qp", ""))


class UndoTest(unittest.TestCase):
    def check_ends(self, desk, back, again):
        self.assertEqual(redone(desk), again)
        self.assertEqual(desk.answers(), back)
        if not back:
            with self.assertRaises(NothingToUndo):
                desk.undo()
        if not again:
            with self.assertRaises(NothingToRedo):
                desk.redo()

    def test_both_ends(self):
        desk = desk_of()
        self.check_ends(desk, "", "")
        desk.ask("q")
        self.check_ends(desk, "q", "")
        self.assertIsNone(desk.undo())
        self.check_ends(desk, "", "q")
        self.assertIsNone(desk.redo())
        self.check_ends(desk, "q", "")

    def test_after_one_another(self):
        desk = desk_of()
        states = [state(desk)]
        for answer in "qPQp":
            desk.ask(answer)
            states.append(state(desk))
        for at in (3, 2, 1, 0):
            desk.undo()
            self.assertEqual(state(desk), states[at])
            self.check_ends(desk, "qPQp"[:at], "qPQp"[at:])
        for at in (1, 2, 3, 4):
            desk.redo()
            self.assertEqual(state(desk), states[at])
            self.check_ends(desk, "qPQp"[:at], "qPQp"[at:])
        for at in (3, 2, 3, 4, 3, 2, 1, 2):
            (desk.undo if len(desk) > at else desk.redo)()
            self.assertEqual(state(desk), states[at])

    def test_new_steps_leave_nothing_to_make_again(self):
        desk = desk_of("qPQ")
        desk.undo()
        desk.undo()
        desk.ask("Q" if desk.chance("Q") != 0 else "p")
        self.check_ends(desk, "qp", "")
        desk.undo()
        self.check_ends(desk, "q", "p")
        desk.redo()
        desk.ask("q")
        self.check_ends(desk, "qpq", "")
        # The same answer as a new step, too.
        desk.undo()
        desk.undo()
        desk.ask("p")
        self.check_ends(desk, "qp", "")

    def test_errors_change_nothing(self):
        desk = desk_of("q")
        before = state(desk)
        with self.assertRaises(NothingToRedo):
            desk.redo()
        self.assertEqual(state(desk), before)
        desk.undo()
        before = state(desk)
        with self.assertRaises(NothingToUndo):
            desk.undo()
        self.assertEqual((state(desk), redone(desk)), (before, "q"))

    def test_any_order(self):
        source = random.Random(52)
        for _ in range(20):
            desk, made, back = desk_of(beam=(2, 3)), "", ""
            for _ in range(30):
                kind = source.choice(["ask", "undo", "undo", "redo"])
                if kind == "ask":
                    answer = [letter for letter in source.sample("pqPQ", 4) if desk.chance(letter) != 0][0]
                    desk.ask(answer)
                    made, back = made[:12] + answer, ""
                    if len(made) == 13:
                        break
                elif kind == "undo" and made:
                    desk.undo()
                    made, back = made[:-1], made[-1] + back
                elif kind == "redo" and back:
                    desk.redo()
                    made, back = made + back[0], back[1:]
                self.check_ends(desk, made, back)
                self.assertEqual(desk.share(), share(made, *plane(Ratio(1, 2)), (2, 3)))


class TrialTest(unittest.TestCase):
    def test_the_desk_is_as_it_was(self):
        desk = desk_of("qPq")
        desk.undo()
        before = state(desk), redone(desk)
        with desk.trial() as trial:
            self.assertIs(trial, desk)
            trial.ask("Q")
            self.assertEqual((desk.answers(), len(desk), redone(desk)), ("qPQ", 3, ""))
        self.assertEqual((state(desk), redone(desk)), before)
        self.assertEqual(before[1], "q")

    def test_steps_that_are_taken_back_in_it(self):
        desk = desk_of("qPqp")
        desk.undo()
        before = state(desk), redone(desk)
        with desk.trial() as trial:
            for _ in range(3):
                trial.undo()
            self.assertEqual((len(desk), redone(desk)), (0, "qPqp"))
            trial.ask("p")
        self.assertEqual((state(desk), redone(desk)), before)
        with desk.trial():
            desk.redo()
        self.assertEqual((state(desk), redone(desk)), before)
        desk.redo()
        self.assertEqual(desk.answers(), "qPqp")

    def test_one_that_ends_by_an_error(self):
        desk = desk_of("qP")
        desk.undo()
        before = state(desk), redone(desk)
        for wrong, error in (("x", BadAnswer), ("Q", Never), (None, BadAnswer)):
            with self.assertRaises(error) as caught:
                with desk.trial() as trial:
                    trial.ask("q")
                    trial.ask(wrong)
            self.assertEqual(caught.exception.answer, wrong)
            self.assertEqual((state(desk), redone(desk)), before)
        with self.assertRaises(ZeroDivisionError):
            with desk.trial():
                desk.undo()
                1 // 0
        self.assertEqual((state(desk), redone(desk)), before)
        with self.assertRaises(NothingToUndo):
            with desk.trial():
                desk.undo()
                desk.undo()
        self.assertEqual((state(desk), redone(desk)), before)

    def test_trials_within_one_another(self):
        desk = desk_of("q")
        with desk.trial() as outer:
            outer.ask("P")
            outer.ask("Q")
            outer.undo()
            within = state(desk), redone(desk)
            with outer.trial() as inner:
                inner.undo()
                inner.ask("p")
                with inner.trial():
                    desk.ask("p")
                    self.assertEqual(desk.answers(), "qpp")
                self.assertEqual(desk.answers(), "qp")
            self.assertEqual((state(desk), redone(desk)), within)
            with self.assertRaises(Never):
                with desk.trial():
                    desk.ask("q")
                    desk.ask("Q")
            self.assertEqual((state(desk), redone(desk)), within)
            self.assertEqual(within[1], "Q")
        self.assertEqual((desk.answers(), redone(desk)), ("q", ""))

    def test_it_begins_with_the_block(self):
        desk = desk_of("q")
        trial = desk.trial()
        desk.ask("P")
        with trial:
            desk.undo()
        self.assertEqual(desk.answers(), "qP")

    def test_leaving_a_block_early(self):
        desk = desk_of("q")
        for _ in range(2):
            with desk.trial():
                desk.ask("p")
                continue
        self.assertEqual(desk.answers(), "q")
        self.assertEqual((redone(desk_of("pq")), desk_of("pq").answers()), ("", "pq"))


class SupposedTest(unittest.TestCase):
    def desks(self):
        for answers, back in (("", 0), ("q", 0), ("qPq", 0), ("qPq", 1), ("qPq", 3)):
            desk = desk_of(answers, (3, 1))
            for _ in range(back):
                desk.undo()
            yield desk, (state(desk), redone(desk))

    def test_supposed(self):
        p, q = plane(Ratio(1, 2))
        for desk, before in self.desks():
            for row in ("", "p", "Pq", "qpQP", "pp", "QPqpQPqpQPqp"):
                if share_of(row, p, q, desk.beam()) == 0:
                    continue
                for other in ("", "q", "PQ", "pP", "pqPQpqPQpqPQ"):
                    found = desk.supposed(row, other)
                    self.assertIsInstance(found, Ratio)
                    wanted = share_of(row + other, p, q, desk.beam()) / share_of(row, p, q, desk.beam())
                    self.assertEqual(fraction(found), wanted)
                    self.assertEqual(desk.supposed(other=other, row=row), found)
                    self.assertEqual((state(desk), redone(desk)), before)

    def wanted_error(self, left, row, other):
        """The error and what it tells, answer by answer."""
        for answer in row:
            if answer not in "pqPQ":
                return BadAnswer, answer
            left = passed_on(answer, *plane(Ratio(1, 2)), left)
            if strength(left) == 0:
                return Never, answer
        return BadAnswer, [answer for answer in other if answer not in "pqPQ"][0]

    def test_wrong_answers(self):
        cases = [
            ("x", "p"), ("qx", "y"), ("q", "qy"), ("", "z"), ("qpP", "q"), ("qpPx", "y"), ("qxQ", "y"), ("qQ", "1"), ("qpqqQx", ""),
            ("q p", "q"), ("qp", "pq "), ("Pp", "x"), ("pPx", "xy"), ("QqqQ", "x"), ("qpqpqpqpqpqP", "x"), ("qpqpqpqpqpq1", "2"),
        ]
        seen = set()
        for desk, before in self.desks():
            for row, other in cases:
                error, told = self.wanted_error([fraction(item) for item in desk.beam()], row, other)
                with self.subTest(row=row, other=other), self.assertRaises(error) as caught:
                    desk.supposed(row, other)
                self.assertEqual(caught.exception.answer, told)
                self.assertEqual((state(desk), redone(desk)), before)
                seen.add((error, told))
        self.assertLessEqual({(Never, "P"), (Never, "Q"), (Never, "q"), (BadAnswer, "x"), (BadAnswer, "y"), (BadAnswer, " ")}, seen)

    def test_in_a_trial_and_after_reading(self):
        desk = read_desk("1\n1\n0\n5\np")
        with desk.trial():
            desk.ask("Q")
            self.assertEqual(desk.supposed("p", "Q"), 1)
            self.assertEqual(desk.supposed("p", "q"), 0)
            with self.assertRaises(Never):
                desk.supposed("q", "Q")
            self.assertEqual(desk.answers(), "pQ")
        self.assertEqual(desk.answers(), "p")

    def test_known_chances(self):
        desk = desk_of("q")
        self.assertEqual(desk.supposed("P", "Q"), Ratio(9, 25))
        self.assertEqual(fraction(desk.supposed("", "p")), Fraction(9, 25))


if __name__ == "__main__":
    unittest.main()

"""Point 54: texts of desks, and reading them."""

import random
import unittest

from filterorders.desk import Desk, read_desk
from filterorders.errors import BadLine, NothingToRedo, NothingToUndo
from filterorders.ratios import Ratio
from filterorders.tables import Table, filter_of, line, plane
from tests.test_desk import state
from tests.test_questions import some_beam, some_pairs
from tests.tools import some_filter

ONE = "1\n1\n0\n-5/3\np\nQ\np"
TWO = "2\n1 0\n0 0\n9/25 12/25\n12/25 16/25\n1 -1/2\nq\nP\nQ"
THREE = "3\n1 0 0\n0 0 0\n0 0 0\n1/2 1/2 0\n1/2 1/2 0\n0 0 1\n1 2 3"


def changed(text, number, new):
    """The text with another line of a number, counted from 1; without it for None."""
    lines = text.split("\n")
    lines[number - 1:number] = [] if new is None else [new]
    return "\n".join(lines)


class TextTest(unittest.TestCase):
    def test_known_texts(self):
        desk = Desk(*plane(Ratio(1, 2)), (1, Ratio(-2, 4)))
        self.assertEqual(desk.text(), "2\n1 0\n0 0\n9/25 12/25\n12/25 16/25\n1 -1/2")
        for answer in "qPQ":
            desk.ask(answer)
        self.assertEqual(desk.text(), TWO)
        desk.undo()
        self.assertEqual(desk.text(), TWO[:-2])
        desk.redo()
        self.assertEqual(desk.text(), TWO)
        self.assertEqual(Desk(*line("q"), [7]).text(), "1\n0\n1\n7")
        self.assertEqual(Desk(filter_of(3, [(1, 0, 0)]), filter_of(3, [(1, 1, 0), (0, 0, 1)]), [1, 2, 3]).text(), THREE)

    def test_it_is_read_again(self):
        source = random.Random(53)
        for p, q in some_pairs(15) + [(some_filter(source, length), some_filter(source, length)) for length in range(1, 9)]:
            desk = Desk(p, q, some_beam(source, len(p)))
            for _ in range(source.randint(0, 6)):
                desk.ask([answer for answer in source.sample("pqPQ", 4) if desk.chance(answer) != 0][0])
            found = read_desk(text=desk.text())
            self.assertIsInstance(found, Desk)
            self.assertEqual(state(found), state(desk))
            with self.assertRaises(NothingToRedo):
                found.redo()
            for _ in desk.answers():
                found.undo()
                desk.undo()
                self.assertEqual(state(found), state(desk))
            with self.assertRaises(NothingToUndo):
                found.undo()

    def test_known_texts_are_read(self):
        for text in (ONE, TWO, THREE):
            self.assertEqual(read_desk(text).text(), text)
        found = read_desk(ONE)
        self.assertEqual((found.answers(), found.beam(), found.share(), len(found)), ("pQp", [Ratio(-5, 3)], 1, 3))
        found.undo()
        found.redo()
        self.assertEqual(found.text(), ONE)
        for length in range(1, 9):
            text = Desk(Table.unit(length), filter_of(length, []), [1] + [0] * (length - 1)).text()
            self.assertEqual(read_desk(text).text(), text)


class BadLineTest(unittest.TestCase):
    def check(self, text, number):
        with self.subTest(text=text), self.assertRaises(BadLine) as caught:
            read_desk(text)
        self.assertEqual(caught.exception.line, number)

    def test_wrong_lengths(self):
        for first in (
            "", "0", "9", "10", "-1", "+2", "02", "2 ", " 2", "2.0", "2/1", "two", "2 2", "1 0", "p", "00", "2,", "-2", "20", "1e0", "4/2", "x2",
        ):
            self.check(changed(TWO, 1, first), 1)
            self.check(first, 1)
        self.check("\n" + TWO, 1)
        self.check(changed(TWO, 1, None), 1)

    def test_another_length_than_that_of_the_rows(self):
        self.check(changed(TWO, 1, "1"), 2)
        self.check(changed(TWO, 1, "3"), 2)
        self.check(changed(THREE, 1, "2"), 2)
        self.check(changed(THREE, 1, "8"), 2)

    def test_wrong_rows(self):
        wrong = [
            "", " ", "1", "1 0 0", "1  0", " 1 0", "1 0 ", "1,0", "1 x", "x 0", "1 0/1", "2/2 0", "1 -0", "1 00", "01 0", "+1 0", "1 0.0", "1 1/0",
            "1 0/3", "--1 0", "1/ 0", "/1 0", "1 0p", "p", "1 4/-2", "1 2/4", "1/1 0", "1 - 0", "1 / 2", "1 1 / 2", "( 0",
        ]
        for number in range(2, 7):
            for row in wrong:
                self.check(changed(TWO, number, row), number)
        for number in range(2, 5):
            for row in ("", " ", "1 0", "x", "1 ", " 1", "01", "-0", "1/1", "2/2", "0/1", "1/0", "p"):
                self.check(changed(ONE, number, row), number)

    def test_missing_lines(self):
        for text in (TWO, THREE, ONE):
            lines = text.split("\n")
            needed = 2 + 2 * int(lines[0])
            for many in range(1, needed):
                self.check("\n".join(lines[:many]), many + 1)
                self.check("\n".join(lines[:many]) + "\n", many + 1)
            self.assertEqual(read_desk("\n".join(lines[:needed])).answers(), "")

    def test_what_is_no_filter(self):
        self.check(changed(TWO, 2, "2 0"), 2)
        self.check(changed(TWO, 2, "1 1"), 2)
        self.check(changed(TWO, 3, "1 0"), 2)
        self.check(changed(TWO, 3, "0 1/2"), 2)
        self.check(changed(TWO, 4, "9/25 12/26"), 4)
        self.check(changed(TWO, 4, "9/25 -12/25"), 4)
        self.check(changed(TWO, 5, "12/25 17/25"), 4)
        self.check(changed(TWO, 5, "1 2"), 4)
        self.check(changed(ONE, 2, "2"), 2)
        self.check(changed(ONE, 3, "-1"), 3)
        self.check(changed(ONE, 3, "1/2"), 3)
        self.check(changed(THREE, 4, "0 0 -1"), 2)
        self.check(changed(THREE, 7, "0 0 2"), 5)

    def test_beams_of_zeros(self):
        self.check(changed(TWO, 6, "0 0"), 6)
        self.check(changed(ONE, 4, "0"), 4)
        self.check(changed(THREE, 8, "0 0 0"), 8)
        self.assertEqual(read_desk(changed(THREE, 8, "0 0 1")).beam(), [0, 0, 1])

    def test_wrong_answers(self):
        for answer in ("", " ", "x", "pq", "pp", "p ", " p", "p q", "R", "1", "0", "p,", "PQ", "undo", "1 0"):
            self.check(changed(TWO, 7, answer), 7)
            self.check(changed(TWO, 8, answer), 8)
            self.check(changed(TWO, 9, answer), 9)
            self.check(TWO + "\n" + answer, 10)

    def test_a_line_feed_at_the_end(self):
        for text in (ONE, TWO, THREE):
            many = len(text.split("\n"))
            self.check(text + "\n", many + 1)
            self.check(text + "\n\n", many + 1)

    def test_answers_of_the_chance_0(self):
        self.check(changed(TWO, 7, "q\nQ"), 8)
        self.check(changed(TWO, 8, "Q"), 8)
        self.check(changed(TWO, 9, "p"), 9)
        self.check(changed(ONE, 5, "P"), 5)
        self.check(changed(ONE, 6, "q"), 6)
        self.check(TWO + "\np\nQ\nP\nQ\nq", 14)

    def test_the_first_wrong_line_is_told(self):
        self.check(changed(changed(TWO, 3, "0 1/2"), 5, "x"), 2)
        self.check(changed(changed(TWO, 3, "x"), 2, "1 1"), 3)
        self.check(changed(changed(TWO, 2, "1 1"), 4, ""), 2)
        self.check(changed(changed(TWO, 4, "1 1"), 6, "0 0"), 4)
        self.check(changed(changed(TWO, 4, "1 1"), 2, "2 0"), 2)
        self.check(changed(changed(TWO, 5, "1 x"), 4, "7 7"), 5)
        self.check(changed(changed(TWO, 6, "0 0"), 7, "x"), 6)
        self.check(changed(changed(TWO, 8, "Q"), 7, "x"), 7)
        self.check(changed(TWO, 9, "Q\nx\nq"), 10)
        self.check(changed(changed(TWO, 9, "Q\nx"), 8, "q"), 9)
        self.check(changed(changed(TWO, 1, "x"), 2, "x"), 1)
        self.check("2\n1 1\n0 0", 2)
        self.check("2\n1 0\n0 0\n1 1\n0 0", 4)


if __name__ == "__main__":
    unittest.main()

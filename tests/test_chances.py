"""Points 38 and 39: all rows of answers to some questions, and the chances of lists of rows."""

import random
import unittest
from fractions import Fraction

from filterorders.bounds import reading
from filterorders.errors import BadAnswer, BadBeam, NotFilter, UnlikeTables
from filterorders.formulas import Formula
from filterorders.questions import chance, chance_at_least, chance_formula, chance_less, outcomes, parted_chance, row_formula
from filterorders.questions import same_chance, share
from filterorders.ratios import Ratio
from filterorders.tables import Table, is_filter, line, plane
from tests.test_filters import NOT_FILTERS
from tests.test_questions import LINE_NAMES, WRONG_ROWS, some_beam, some_pairs, some_plain_row, some_row
from tests.tools import fraction, fraction_rows, is_never_negative, is_nothing, share_of, strength, value_at, zeros

# Two lists with the same chance always, and two of which the first one has at least the chance of the second one.
SAME = [
    ([], []), ([], ["pP"]), ([""], ["p", "P"]), (["", "qQ"], ["pq", "pQ", "P"]), (["pq", "PQ"], ["qp", "QP"]), (["p"], ["pq", "pQ"]),
    (["pqP", "pqp"], ["pq"]), (["pQP"], ["pqP"]), (["pQ", "Pq"], ["qP", "Qp"]), (["p", "p"], ["pq", "p", "pQ"]), ([""], ["", "pP"]),
    (["pQP", "pqP", "p"], ["pqP", "pqP", "pq", "pQ"]), (["pqpq", "pqpQ"], ["pqp"]), (["qp", "PQ", "QP"], ["pq", "PQ", "PQ"]),
]
AT_LEAST = [
    ([""], ["pq", "PQ"]), (["p"], ["pq"]), (["p"], []), (["p", "q"], ["p"]), (["p", "q"], ["pqp", "qQ"]), (["", ""], ["p", "q"]),
    (["", "pq"], ["qp"]), (["pq", "Pq", "PQ"], ["PQ"]), (["pqp"], ["pqpq"]), (["p"], ["pqP", "pqP", "pqP", "pqP"]),
    (["p", "p", "p"], ["pqP"] * 8),
]
NOT_AT_LEAST = [
    ([], ["p"]), (["pq"], ["qp"]), (["qp"], ["pq"]), (["pq", "Pq"], ["q"]), (["pq", "PQ"], [""]), (["p"], ["q"]), (["p"], ["p", "pq"]),
    (["pqp"], ["pq"]), (["p"], ["pqP"] * 5), (["pqPq"], ["pqp", "pP"]), (["pq", "Qp"], ["p"]), (["P", "Q"], ["p"]),
    (["pqpQ", "pQ"], ["pQpQ", "pqPq", "pQp"]),
]


class OutcomesTest(unittest.TestCase):
    def test_known_outcomes(self):
        self.assertEqual(outcomes(""), [""])
        self.assertEqual(outcomes("q"), ["q", "Q"])
        self.assertEqual(outcomes("pq"), ["pq", "pQ", "Pq", "PQ"])
        self.assertEqual(outcomes(questions="qq"), ["qq", "qQ", "Qq", "QQ"])
        wanted = [one + two + three + four for one in "pP" for two in "qQ" for three in "qQ" for four in "pP"]
        self.assertEqual(outcomes("pqqp"), wanted)
        self.assertEqual(len(outcomes("pqpqpqpqpqpq")), 4096)

    def test_lists_are_new(self):
        found = outcomes("p")
        found.append("x")
        self.assertEqual(outcomes("p"), ["p", "P"])

    def test_the_shares_add_up(self):
        for p, q in some_pairs(7, 4):
            for questions in ("", "p", "pq", "qpq", "ppqp"):
                self.assertEqual(sum(fraction(share(row, p, q, [1, 2, -1, 3][:len(p)])) for row in outcomes(questions)), 1)
                self.assertEqual(chance(outcomes(questions), p, q, [1, 2, -1, 3][:len(p)]), 1)
                self.assertIs(same_chance(outcomes(questions), [""]), True)

    def test_wrong_characters(self):
        known = {"P": "P", "Q": "Q", "pqP": "P", "pQP": "Q", "x": "x", "pq ": " ", "qpqp1P": "1", "ppA": "A", "\n": "\n", "rP": "r"}
        for questions, wrong in known.items():
            with self.subTest(questions), self.assertRaises(BadAnswer) as caught:
                outcomes(questions)
            self.assertEqual(caught.exception.answer, wrong)


class ChanceTest(unittest.TestCase):
    def test_it_is_the_sum_of_the_shares(self):
        source = random.Random(40)
        for p, q in some_pairs(8, 5):
            for many in (0, 1, 2, 8):
                rows = [source.choice([some_row, some_plain_row])(source, 6) for _ in range(many)]
                beam = some_beam(source, len(p))
                found = chance(rows, p, q, beam)
                self.assertIsInstance(found, Ratio)
                self.assertEqual(fraction(found), sum((share_of(row, p, q, beam) for row in rows), Fraction(0)))
                self.assertEqual(chance(rows=tuple(rows), p=p, q=q, beam=tuple(beam)), found)
                wanted = strength([fraction(item) for item in beam]) * fraction(found)
                self.assertEqual(fraction(reading(chance_formula(rows), p, q, beam)), wanted)

    def test_known_chances(self):
        p, q = plane(Ratio(1, 2))
        known = [(["q"], "9/25"), (["q", "q"], "18/25"), (["q", "Q"], "1"), ([], "0"), (["pP"], "0"), (["", ""], "2"), (["pq", "P"], "9/25")]
        for rows, text in known:
            self.assertEqual(chance(rows, p, q, (1, 0)).text(), text)

    def test_known_formulas(self):
        known = [([], "0"), ([""], "1"), (["p", "p"], "2 p"), (["p", "P"], "1"), (["pq", "qp"], "pqp + qpq"), (["pP", "qQ"], "0")]
        for rows, text in known:
            self.assertEqual(chance_formula(rows).text(), text)
        rows = ["pqPQ", "", "Qp", "pqpqpqpqpqpq"]
        total = Formula({})
        for row in rows:
            total = total + row_formula(row)
        self.assertEqual(chance_formula(rows=tuple(rows)), total)

    def test_the_order_of_the_errors(self):
        not_filter = Table([[1, 2], [2, 1]])
        for p, q, beam in ((not_filter, zeros(2), None), (zeros(2), not_filter, [0]), (zeros(1), zeros(2), [0]), (*plane(1), [0, 0])):
            with self.assertRaises(BadAnswer) as caught:
                chance(["p", "", "qpyz", "x"], p, q, beam)
            self.assertEqual(caught.exception.answer, "y")
        for rows in ([], [""], ["p", "q"]):
            for beam in (None, [0, 0], [1]):
                for wrong in NOT_FILTERS:
                    with self.assertRaises(NotFilter):
                        chance(rows, zeros(3), wrong, beam)
                with self.assertRaises(UnlikeTables):
                    chance(rows, zeros(1), zeros(2), beam)
                with self.assertRaises(BadBeam):
                    chance(rows, *plane(1), beam)

    def test_what_is_handed_in_stays_as_it_was(self):
        rows, beam = ["pq", "Q"], [1, Ratio(1, 2)]
        chance(rows, *plane(3), beam)
        chance_less(rows, ["p"])
        self.assertEqual((rows, beam), (["pq", "Q"], [1, Ratio(1, 2)]))


class TwoListsTest(unittest.TestCase):
    def check_told(self, found, rows, others):
        """The chances of both lists for what is told."""
        p, q, beam = found
        self.assertIsInstance(found, tuple)
        self.assertIsInstance(beam, list)
        self.assertIn(len(p), (1, 2))
        self.assertEqual((len(q), len(beam), is_filter(p), is_filter(q)), (len(p), len(p), True, True))
        self.assertEqual([isinstance(item, Ratio) for item in beam], [True] * len(p))
        return [sum((share_of(row, p, q, beam) for row in side), Fraction(0)) for side in (rows, others)]

    def check(self, rows, others, same, least):
        self.assertIs(same_chance(rows, others), same)
        self.assertIs(chance_at_least(rows, others), least)
        parted, less = parted_chance(rows, others), chance_less(rows, others)
        self.assertEqual((parted is None, less is None), (same, least))
        if not same:
            one, two = self.check_told(parted, rows, others)
            self.assertNotEqual(one, two)
        if not least:
            one, two = self.check_told(less, rows, others)
            self.assertLess(one, two)

    def test_the_same_chance(self):
        for rows, others in SAME:
            with self.subTest(rows=rows, others=others):
                self.check(rows, others, True, True)
                self.check(tuple(others), rows, True, True)

    def test_at_least(self):
        for rows, others in AT_LEAST:
            with self.subTest(rows=rows, others=others):
                self.check(rows, others, False, True)
                self.check(others, rows, False, False)

    def test_not_at_least(self):
        for rows, others in NOT_AT_LEAST:
            with self.subTest(rows=rows, others=others):
                self.check(rows, others, False, False)

    def test_by_name(self):
        for function in (same_chance, chance_at_least):
            self.assertIs(function(rows=["p"], others=["p", "pP"]), True)
        for function in (parted_chance, chance_less):
            self.assertIsNone(function(rows=("p",), others=["p", "pP"]))

    def test_chances_that_differ_on_planes_alone(self):
        rows, others = ["pq"], ["pqp"]
        for name in LINE_NAMES:
            self.assertEqual(chance(rows, *line(name), [1]), chance(others, *line(name), [1]))
        self.check(rows, others, False, True)
        self.check(others, rows, False, False)

    def test_chances_that_differ_on_some_lines_and_are_less_on_no_line(self):
        # On each line the first chance is at least the second one; on planes it need not be.
        rows, others = ["pQ", "qP"], ["pqP"] * 4
        for name in LINE_NAMES:
            one, two = [chance(side, *line(name), [1]) for side in (rows, others)]
            self.assertTrue(two <= one)
        self.check(rows, others, False, False)

    def test_chances_that_touch_at_one_angle_number(self):
        # In the space of p, the share of pq is t, and that of pqP is t (1 - t), where t is the angle number.
        for rows, others in ((["p"], ["pqP"] * 4), (["p"] + ["pqp"] * 4, ["pq"] * 4), (["p"], ["pqPQ", "pqPq"] * 4)):
            with self.subTest(rows=rows, others=others):
                self.check(rows, others, False, True)
                for more in (["pqPqPqPqPqPq"], ["pQpQpQpQpQpQ"], ["pqpqpqpqpqpq"]):
                    # Where both are equal, at 1/2, there is now a little more on the other side.
                    self.check(rows, others + more, False, False)
                    self.check(rows + more, others + more, False, True)

    def test_chances_that_are_less_at_few_angle_numbers(self):
        rows, others = ["p"] + ["pqp"] * 4, ["pq"] * 4 + ["pqPqPqPqPqPq"]
        difference = chance_formula(rows) - chance_formula(others)
        below = [at for at in range(201) if not is_never_negative(value_at(difference, Fraction(at, 200)))]
        self.assertEqual((min(below) > 95, max(below) < 105), (True, True))
        self.check(rows, others, False, False)

    def test_any_lists(self):
        source = random.Random(41)
        turns = [Fraction(at, 24) for at in range(25)]
        for _ in range(150):
            rows, others = [
                [source.choice([some_row, some_plain_row])(source, source.choice([2, 3, 5])) for _ in range(source.randint(0, 5))]
                for _ in range(2)
            ]
            difference = chance_formula(rows) - chance_formula(others)
            values = [value_at(difference, turn) for turn in turns] + [fraction_rows(difference, *line(name)) for name in LINE_NAMES]
            same = all(is_nothing(value) for value in values)
            least = chance_at_least(rows, others)
            if not all(is_never_negative(value) for value in values):
                self.assertIs(least, False)
            self.check(rows, others, same, least)

    def test_wrong_characters(self):
        for function in (same_chance, parted_chance, chance_at_least, chance_less):
            for row, wrong in WRONG_ROWS.items():
                for lists in (
                    ([row], []), ([], [row]), (["p", "", row, "y"], ["z"]), (["pP"], ["q", row, "z"]), ([row], [row]), (("", row), ("0",)),
                    ([row, "pq"], ["pq"]),
                ):
                    with self.subTest(lists=lists), self.assertRaises(BadAnswer) as caught:
                        function(*lists)
                    self.assertEqual(caught.exception.answer, wrong)
        for row, wrong in WRONG_ROWS.items():
            with self.assertRaises(BadAnswer) as caught:
                chance_formula(["", "pq", row, "u"])
            self.assertEqual(caught.exception.answer, wrong)


if __name__ == "__main__":
    unittest.main()

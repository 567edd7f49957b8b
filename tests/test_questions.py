"""Points 34 to 37: shares of rows of answers, and which rows always have at least the share of others."""

import itertools
import random
import unittest
from fractions import Fraction

from filterorders.bounds import reading
from filterorders.errors import BadAnswer, BadBeam, NotFilter, UnlikeTables
from filterorders.formulas import Formula
from filterorders.pieces import pair_of, turn_table, turned
from filterorders.questions import at_least, less, plain_row, row_formula, same_share, share
from filterorders.ratios import Ratio
from filterorders.tables import Table, is_filter, line, plane
from tests.test_filters import NOT_FILTERS
from tests.tools import NOT_NUMBERS, fraction, ratio, share_of, small_number, some_beams, some_filter, strength, zeros

LINE_NAMES = ["both", "p", "q", "none"]
SHORT_ROWS = ["".join(row) for many in range(4) for row in itertools.product("pqPQ", repeat=many)]
WRONG_ROWS = {
    "x": "x", "px": "x", "xp": "x", "pqPQ1": "1", "pqA b": "A", " p": " ", "p q": " ", "pq\n": "\n", "p,q": ",", "R": "R",
    "pqpqpqpqpqp0": "0", "1y": "1", "PQr": "r", "-": "-", "p~q": "~", "pP(": "(", "ppqqb": "b",
}


def some_pairs(seed, many=12):
    """Pairs of lines, of planes, of both, of any filters, and turned ones."""
    source = random.Random(seed)
    pairs = [line(name) for name in LINE_NAMES] + [plane(ratio(number)) for number in ("1/2", "1/9", "8/9", "3", "-2/5")]
    pairs += [pair_of({"both": 1, "q": 1}, [Ratio(1, 3)]), pair_of({"none": 1, "p": 2}, []), pair_of({}, [Ratio(1, 5), Ratio(2, 3)])]
    for _ in range(many):
        length = source.randint(1, 4)
        pair = some_filter(source, length), some_filter(source, length)
        pairs.append(pair)
        if length > 1:
            pairs.append(turned(pair, turn_table(length, 0, length - 1, ratio(small_number(source)))))
    return pairs


def some_row(source, longest=12):
    return "".join(source.choice("pqPQ") for _ in range(source.randint(0, longest)))


def some_plain_row(source, longest=12):
    """A row that does not contradict itself, in which some letters stand twice."""
    row = ""
    letter = source.choice("pq")
    for _ in range(source.randint(1, longest)):
        if row and source.random() < 0.2:
            row += row[-1]
        else:
            row += source.choice([letter, letter.upper()])
            letter = "q" if letter == "p" else "p"
    return row


def some_beam(source, length):
    beam = some_beams(source, 1, length)[0]
    beam[source.randrange(length)] = Ratio(source.choice([1, -2, 3]))
    return beam


class ShareTest(unittest.TestCase):
    def test_shares_of_rows_of_all_lengths(self):
        source = random.Random(34)
        for p, q in some_pairs(1):
            for many in range(13):
                row = "".join(source.choice("pqPQ") for _ in range(many))
                beam = some_beam(source, len(p))
                found = share(row, p, q, beam)
                self.assertIsInstance(found, Ratio)
                self.assertEqual(fraction(found), share_of(row, p, q, beam))

    def test_shares_of_plain_rows(self):
        source = random.Random(35)
        for p, q in some_pairs(2):
            for _ in range(6):
                row, beam = some_plain_row(source), some_beam(source, len(p))
                self.assertEqual(fraction(share(row, p, q, beam)), share_of(row, p, q, beam))

    def test_the_empty_row(self):
        for p, q in some_pairs(3):
            self.assertEqual(share("", p, q, [1] * len(p)), 1)
        found = share("", *plane(2), (Ratio(-1, 3), 0))
        self.assertIsInstance(found, Ratio)
        self.assertEqual(found, 1)

    def test_known_shares(self):
        p, q = plane(Ratio(1, 2))
        known = {"p": "1", "P": "0", "q": "9/25", "Q": "16/25", "pq": "9/25", "pQP": "144/625", "qp": "81/625", "qQ": "0", "pqQ": "0"}
        for row, text in known.items():
            self.assertEqual(share(row, p, q, (1, 0)).text(), text)
        self.assertEqual(share(row="Pq", p=p, q=q, beam=[0, 7]).text(), "16/25")

    def test_rows_that_contradict_themselves(self):
        for p, q in some_pairs(4):
            for row in ("pP", "Qq", "pqQp", "ppPq", "qpqpqQ"):
                self.assertEqual(share(row, p, q, [2] * len(p)), 0)

    def test_the_order_of_the_answers(self):
        p, q = plane(Ratio(1, 2))
        self.assertEqual([share(row, p, q, (0, 1)).text() for row in ("pq", "qp", "Pq", "qP")], ["0", "144/625", "16/25", "256/625"])

    def test_on_lines(self):
        for name, passing in (("both", "pq"), ("p", "pQ"), ("q", "Pq"), ("none", "PQ")):
            p, q = line(name)
            for row in SHORT_ROWS:
                self.assertEqual(share(row, p, q, [Ratio(-3, 7)]), int(all(letter in passing for letter in row)))

    def test_a_wrong_character_is_told(self):
        for row, wrong in WRONG_ROWS.items():
            with self.subTest(row), self.assertRaises(BadAnswer) as caught:
                share(row, *plane(1), [1, 1])
            self.assertEqual(caught.exception.answer, wrong)

    def test_the_order_of_the_errors(self):
        not_filter = Table([[1, 2], [2, 1]])
        for p, q, beam in ((not_filter, zeros(2), None), (zeros(2), not_filter, [0]), (zeros(1), zeros(2), [0]), (*plane(1), [0, 0])):
            with self.assertRaises(BadAnswer) as caught:
                share("pz", p, q, beam)
            self.assertEqual(caught.exception.answer, "z")
        for row in ("", "p", "pP"):
            for beam in (None, [0, 0], [1], [1, 1]):
                for wrong in NOT_FILTERS:
                    for pair in ((wrong, Table.unit(len(wrong))), (zeros(3), wrong)):
                        with self.assertRaises(NotFilter):
                            share(row, *pair, beam)
                with self.assertRaises(UnlikeTables):
                    share(row, zeros(1), zeros(2), beam)

    def test_wrong_beams(self):
        p, q = plane(Ratio(1, 2))
        wrong = [[0, 0], (0, Ratio(0)), [], [1], [1, 2, 3], None, 5, "12", {0: 1, 1: 1}, True, p]
        wrong += [[1, given] for given in NOT_NUMBERS] + [[given, 1] for given in NOT_NUMBERS]
        for beam in wrong:
            for row in ("", "pq"):
                with self.subTest(beam=beam), self.assertRaises(BadBeam):
                    share(row, p, q, beam)

    def test_what_is_handed_in_stays_as_it_was(self):
        p, q = plane(Ratio(1, 2))
        beam = [Ratio(1, 3), 2]
        before = p.rows(), q.rows()
        share("pqPQ", p, q, beam)
        self.assertEqual((beam, p.rows(), q.rows()), ([Ratio(1, 3), 2], *before))
        self.assertIsInstance(beam[1], int)
        self.assertEqual(share("q", p, q, (3, 4)), share("q", p, q, [3, 4]))


class RowFormulaTest(unittest.TestCase):
    def test_known_formulas(self):
        known = {
            "": "1", "p": "p", "q": "q", "P": "1 - p", "Q": "1 - q", "pq": "pqp", "pQ": "p - pqp", "pp": "p", "pP": "0",
            "Pq": "q - pq - qp + pqp", "pqP": "pqp - pqpqp", "qpq": "qpqpq", "PQ": "1 - p - q + pq + qp - pqp",
        }
        for row, text in known.items():
            self.assertEqual(row_formula(row).text(), text)
        self.assertIsInstance(row_formula(row="pq"), Formula)

    def test_it_is_the_product_there_and_back(self):
        formulas = {"p": Formula({"p": 1}), "q": Formula({"q": 1}), "P": Formula({"": 1, "p": -1}), "Q": Formula({"": 1, "q": -1})}
        for row in SHORT_ROWS[1:]:
            made = Formula({"": 1})
            for letter in row + row[-2::-1] if len(row) > 1 else row:
                made = made * formulas[letter]
            self.assertEqual(row_formula(row), made)

    def test_its_reading_is_the_share(self):
        source = random.Random(36)
        for p, q in some_pairs(5):
            for longest in (1, 3, 12):
                row, beam = some_row(source, longest), some_beam(source, len(p))
                plain = some_plain_row(source, longest)
                for letters in ("", row, plain):
                    found = reading(row_formula(letters), p, q, beam)
                    part = fraction(found) / strength([fraction(item) for item in beam])
                    self.assertEqual(part, fraction(share(letters, p, q, beam)))

    def test_wrong_characters(self):
        for row, wrong in WRONG_ROWS.items():
            with self.subTest(row), self.assertRaises(BadAnswer) as caught:
                row_formula(row)
            self.assertEqual(caught.exception.answer, wrong)


class PlainRowTest(unittest.TestCase):
    def test_known_rows(self):
        known = {
            "": ("", 0, 0), "p": ("p", 0, 0), "Q": ("Q", 0, 0), "pp": ("p", 0, 0), "QQQQ": ("Q", 0, 0), "pq": ("p", 1, 0),
            "PQ": ("P", 1, 0), "pQ": ("p", 0, 1), "Pq": ("P", 0, 1), "ppQP": ("p", 1, 1), "pqP": ("p", 1, 1), "pQP": ("p", 1, 1),
            "pqpqpqpqpqpq": ("p", 11, 0), "pQpQpQpQpQpQ": ("p", 0, 11), "QqQ": None, "pP": None, "Pp": None, "pqQp": None,
            "ppPP": None, "pqqqQ": None, "pqpqpqpqpqpP": None, "qqppQQPP": ("q", 2, 1), "Qpqqpp": ("Q", 2, 1),
        }
        for row, wanted in known.items():
            self.assertEqual(plain_row(row), wanted)
        self.assertEqual(plain_row(row="pq"), ("p", 1, 0))

    def test_what_can_only_be_left_out_later(self):
        self.assertEqual(plain_row("pppq"), plain_row("pq"))
        self.assertEqual(plain_row("qqqqqP"), ("q", 0, 1))
        self.assertEqual(plain_row("ppqqqppPP"), None)

    def test_the_kinds_of_what_is_told(self):
        found = plain_row("pQq" + "p")
        self.assertIsNone(found)
        found = plain_row("pQP")
        self.assertIsInstance(found, tuple)
        self.assertEqual([isinstance(item, int) for item in found], [False, True, True])

    def test_a_row_and_its_share_on_planes(self):
        source = random.Random(37)
        for _ in range(60):
            row = some_row(source, 6) if source.random() < 0.3 else some_plain_row(source)
            for number in ("1/2", "1/5", "4/5"):
                p, q = plane(ratio(number))
                turn = fraction(q.rows()[0][0])
                beam = some_beam(source, 2)
                found = plain_row(row)
                if found is None:
                    self.assertEqual(share_of(row, p, q, beam), 0)
                else:
                    first, agreed, changed = found
                    wanted = share_of(first, p, q, beam) * turn ** agreed * (1 - turn) ** changed
                    self.assertEqual(share_of(row, p, q, beam), wanted)

    def test_wrong_characters(self):
        for row, wrong in WRONG_ROWS.items():
            with self.subTest(row), self.assertRaises(BadAnswer) as caught:
                plain_row(row)
            self.assertEqual(caught.exception.answer, wrong)


class TwoRowsTest(unittest.TestCase):
    def rows(self):
        source = random.Random(38)
        found = ["", "p", "q", "P", "Q", "pP", "qQp", "pqP", "pQP", "ppQP", "pq", "pqp", "pQ", "PQ", "qp", "qpQ", "qPQ"]
        return found + [some_plain_row(source, 8) for _ in range(13)] + [some_row(source, 5) for _ in range(4)]

    def all_shares(self, rows):
        """For each row its shares for the same filters and beams."""
        source = random.Random(39)
        # Planes near to 0 and 1 are there, where few changes or few agreements count most.
        pairs = [line(name) for name in LINE_NAMES] + [plane(Ratio(at, 40)) for at in range(1, 40)] + some_pairs(6, 3)
        pairs += [plane(Ratio(1, 1000)), plane(Ratio(999, 1000)), plane(Ratio(1, 200)), plane(Ratio(199, 200))]
        beams = []
        for p, q in pairs:
            places = [[int(at == place) for at in range(len(p))] for place in range(len(p))]
            # Beams in the spaces of all four letters, too.
            turns = [list(item) for table in (q, Table.unit(len(p)) - q) for item in table.rows() if any(x != 0 for x in item)]
            beams += [(p, q, beam) for beam in places + turns + [some_beam(source, len(p))]]
        return [[share_of(row, p, q, beam) for p, q, beam in beams] for row in rows]

    def test_they_are_what_shares_show(self):
        rows = self.rows()
        shares = self.all_shares(rows)
        for row, found in zip(rows, shares):
            for other, others in zip(rows, shares):
                with self.subTest(row=row, other=other):
                    self.assertIs(same_share(row, other), found == others)
                    self.assertIs(at_least(row, other), all(one >= two for one, two in zip(found, others)))

    def test_less_shows_it(self):
        rows = self.rows()
        for row in rows:
            for other in rows:
                found = less(row, other)
                self.assertEqual(found is None, at_least(row, other))
                if found is not None:
                    self.check_less(row, other, found)

    def check_less(self, row, other, found):
        p, q, beam = found
        self.assertIsInstance(found, tuple)
        self.assertEqual((len(p), len(q), is_filter(p), is_filter(q)), (2, 2, True, True))
        self.assertIsInstance(beam, list)
        self.assertEqual([isinstance(item, Ratio) for item in beam], [True, True])
        self.assertLess(share_of(row, p, q, beam), share_of(other, p, q, beam))

    def test_other_orders_of_the_same_numbers(self):
        for row, other in (("pqP", "pQP"), ("pqpQ", "pQPQ"), ("pqPQp", "pQpqp"), ("QPqp", "QPQp"), ("ppqPP", "pQP"), ("qPpq", "QQq")):
            self.assertIs(same_share(row, other), True)
        for row, other in (("pq", "qp"), ("pq", "PQ"), ("pq", "pQ"), ("p", ""), ("pP", ""), ("pqp", "pq"), ("pP", "p")):
            self.assertIs(same_share(row, other), False)
            self.assertIs(same_share(other, row), False)

    def test_the_empty_row_and_contradictions(self):
        for row in ("", "p", "QpQ", "pP", "qQq"):
            self.assertIs(at_least("", row), True)
            self.assertIs(at_least(row, "pPq"), True)
            self.assertIsNone(less("", row))
            self.assertIsNone(less(row, "pqQp"))
        for row in ("p", "pp", "Q", "pqpq"):
            self.assertIs(at_least(row, ""), False)
            self.assertIs(at_least("pP", row), False)
            self.check_less(row, "", less(row, ""))
            self.check_less("pP", row, less("pP", row))
        self.check_less("qQ", "", less("qQ", ""))

    def test_narrow_differences(self):
        for row, other in (("pqpqpqpqpqpq", "pQpQpQpQpQpQ"), ("pQpQpQpQpQpQ", "pqpqpqpqpqpq"), ("pqpqpqpqpqpQ", "pqpqpqpqpqpq")):
            self.check_less(row, other, less(row=row, other=other))
        self.check_less("pq", "pQpQpQpQpQpQ", less("pq", "pQpQpQpQpQpQ"))

    def test_wrong_characters(self):
        for function in (same_share, at_least, less):
            for row, wrong in WRONG_ROWS.items():
                for rows in ((row, "pq"), ("pq", row), ("pP", row), ("", row), (row, "pP"), (row, "?"), (row, "")):
                    with self.subTest(rows=rows), self.assertRaises(BadAnswer) as caught:
                        function(*rows)
                    self.assertEqual(caught.exception.answer, wrong)
            with self.assertRaises(BadAnswer) as caught:
                function(row="pqu", other="v")
            self.assertEqual(caught.exception.answer, "u")


if __name__ == "__main__":
    unittest.main()

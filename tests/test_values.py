"""Points 4, 5, 6, 23 and 24: values of formulas, lines and planes, and pairs for which values differ."""

import random
import unittest
from fractions import Fraction

from filterorders.errors import NoLine, NotFilter, UnlikeTables
from filterorders.formulas import Formula
from filterorders.ratios import Ratio
from filterorders.roots import angle
from filterorders.tables import Table, beside, is_filter, line, parting, plane, same, value
from tests.test_filters import NOT_FILTERS
from tests.tools import BIG, PRIME, ROWS
from tests.tools import beam_filter, fraction, items_of, large_number, ratio, read, some_filter, some_formula, table
from tests.tools import value_rows, zeros

LINES = {"both": (1, 1), "p": (1, 0), "q": (0, 1), "none": (0, 0)}
NUMBERS = [Fraction(1, 2), Fraction(1, 3), Fraction(3, 4), Fraction(0), Fraction(1), Fraction(-1, 2), Fraction(-5), Fraction(7, 3)]
NUMBERS += [Fraction(BIG, PRIME), Fraction(-1, BIG), Fraction(BIG)]


def plain_terms(formula):
    return {row: fraction(number) for row, number in formula.terms().items()}


class ValueTest(unittest.TestCase):
    def test_values_of_rows(self):
        source = random.Random(4)
        for length in range(1, 5):
            p, q = some_filter(source, length), some_filter(source, length)
            for row in ROWS:
                self.assertEqual(items_of(value(Formula({row: 1}), p, q)), value_rows({row: 1}, p, q))
            self.assertEqual(value(read("0"), p, q), zeros(length))
            self.assertEqual(value(read("1"), p, q), Table.unit(length))
            self.assertEqual((value(read("p"), p, q), value(read("q"), p, q)), (p, q))
            self.assertEqual((value(read("pq"), p, q), value(read("qp"), p, q)), (p * q, q * p))
            self.assertEqual(value(read("pqp"), p, q), p * q * p)

    def test_values_of_formulas(self):
        source = random.Random(5)
        for length in range(1, 5):
            for _ in range(8):
                p, q = some_filter(source, length), some_filter(source, length)
                formula = some_formula(source)
                found = value(formula, p, q)
                self.assertIsInstance(found, Table)
                self.assertEqual(items_of(found), value_rows(plain_terms(formula), p, q))

    def test_values_of_sums_products_and_mirrors(self):
        source = random.Random(6)
        for length in range(1, 5):
            p, q = some_filter(source, length), some_filter(source, length)
            one, other = some_formula(source), some_formula(source)
            left, right = value(one, p, q), value(other, p, q)
            self.assertEqual(value(one + other, p, q), left + right)
            self.assertEqual(value(one - other, p, q), left - right)
            self.assertEqual(value(one * other, p, q), left * right)
            self.assertEqual(value(one.mirror(), p, q), left.mirror())

    def test_it_does_not_matter_how_a_formula_is_written(self):
        p, q = plane(Ratio(1, 3))
        self.assertEqual(value(Formula({"ppqqp": 2, "": 1}), p, q), Table.unit(2) + p * q * p + p * q * p)
        self.assertEqual(value(Formula({"pp": 2, "p": -2}), p, q), zeros(2))

    def test_names_of_arguments(self):
        p, q = plane(Ratio(1, 2))
        self.assertEqual(value(formula=read("pq"), p=p, q=q), p * q)

    def test_large_numbers(self):
        source = random.Random(7)
        p, q = some_filter(source, 4, 2, large_number), some_filter(source, 4, 1, large_number)
        formula = some_formula(source, 13, large_number)
        self.assertEqual(items_of(value(formula, p, q)), value_rows(plain_terms(formula), p, q))

    def test_tables_that_are_no_filters(self):
        for wrong in NOT_FILTERS:
            for right in (Table.unit(len(wrong)), Table.unit(3)):
                for p, q in ((wrong, right), (right, wrong)):
                    for formula in (read("0"), read("1"), read("pq")):
                        with self.assertRaises(NotFilter):
                            value(formula, p, q)

    def test_filters_of_unlike_lengths(self):
        for p, q in ((Table.unit(1), Table.unit(2)), (zeros(3), zeros(2))):
            for formula in (read("0"), read("p"), read("pq")):
                with self.assertRaises(UnlikeTables):
                    value(formula, p, q)


class LineTest(unittest.TestCase):
    def test_the_four_lines(self):
        for name, (first, second) in LINES.items():
            self.assertIsInstance(line(name), tuple)
            self.assertEqual(line(name), (table([first]), table([second])))
        self.assertEqual(line(name="p"), (table([1]), table([0])))

    def test_any_other_value(self):
        wrong = ["", "P", "Both", "both ", " p", "pq", "planes", "None", "p\n", 0, 1, None, True, False, 1.5, b"p", (), ("p",)]
        for name in wrong + [[], ["p"], {}, {"p": 1}, {"p"}, Ratio(1), object(), LINES, len, NoLine, Table.unit(1)]:
            with self.subTest(name=name), self.assertRaises(NoLine) as caught:
                line(name)
            self.assertIs(caught.exception.name, name)


class PlaneTest(unittest.TestCase):
    def test_planes(self):
        for m in NUMBERS:
            cosine, sine = (1 - m * m) / (1 + m * m), 2 * m / (1 + m * m)
            found = plane(ratio(m))
            self.assertIsInstance(found, tuple)
            p, q = found
            self.assertEqual(p, table([1, 0], [0, 0]))
            self.assertEqual(items_of(q), [[cosine * cosine, cosine * sine], [cosine * sine, sine * sine]])
            self.assertIs(is_filter(q), True)
            self.assertEqual(q, beam_filter((cosine, sine)))
            self.assertEqual((p * q).trace(), angle(ratio(m)))

    def test_integers_and_names(self):
        self.assertEqual(plane(0), (table([1, 0], [0, 0]), table([1, 0], [0, 0])))
        self.assertEqual(plane(1), (table([1, 0], [0, 0]), table([0, 0], [0, 1])))
        self.assertEqual(plane(m=-1), plane(1))
        self.assertEqual(plane(2)[1], beam_filter((-3, 4)))
        self.assertEqual(plane(Ratio(1, 2))[1], beam_filter((3, 4)))
        self.assertEqual(plane(Ratio(-1, 2))[1], beam_filter((3, -4)))


class BesideTest(unittest.TestCase):
    def test_lines_beside_one_another(self):
        found = beside(line("p"), line("q"))
        self.assertIsInstance(found, tuple)
        self.assertEqual(found, (table([1, 0], [0, 0]), table([0, 0], [0, 1])))

    def test_rows_of_both_pairs(self):
        source = random.Random(8)
        for length in range(1, 5):
            for behind in range(1, 5):
                pair = some_filter(source, length), some_filter(source, length)
                other = some_filter(source, behind), some_filter(source, behind)
                for made, first, second in zip(beside(pair, other), pair, other):
                    rows = [row + [0] * behind for row in items_of(first)]
                    rows += [[0] * length + row for row in items_of(second)]
                    self.assertEqual(items_of(made), rows)
                    self.assertIs(is_filter(made), True)

    def test_values_beside_one_another(self):
        pair, other = plane(Ratio(1, 2)), line("q")
        formula = read("1 - p + 2 qp - 1/3 qpq")
        for made in (beside(pair, other), beside(pair=pair, other=other)):
            self.assertEqual(value(formula, *made), beside((value(formula, *pair),) * 2, (value(formula, *other),) * 2)[0])

    def test_what_was_put_beside_may_be_put_beside_again(self):
        pair = plane(Ratio(1, 2))
        for wanted in (4, 8, 16):
            pair = beside(pair, pair)
            self.assertEqual((len(pair[0]), len(pair[1])), (wanted, wanted))
            self.assertEqual((pair[0] * pair[1]).trace(), Ratio(9 * wanted, 50))


class PartingTest(unittest.TestCase):
    def assert_parted(self, one, other):
        self.assertIs(same(one, other), False)
        found = parting(one, other)
        self.assertIsInstance(found, tuple)
        p, q = found
        self.assertIn(len(p), (1, 2))
        self.assertEqual(len(p), len(q))
        self.assertEqual((is_filter(p), is_filter(q)), (True, True))
        self.assertNotEqual(value(one, p, q), value(other, p, q))

    def test_the_same_in_other_words(self):
        pairs = [({"pp": 1}, {"p": 1}), ({"pqq": 2, "pq": -2}, {}), ({"p": 1, "q": 0}, {"ppp": 1}), ({}, {}), ({"": 1}, {"": Ratio(2, 2)})]
        pairs += [({"ppqqpp": 1, "qq": 2}, {"q": 2, "pqp": 1}), ({"p": 1, "pp": 1}, {"p": 2})]
        for left, right in pairs:
            self.assertIs(same(Formula(left), Formula(right)), True)
            self.assertIsNone(parting(Formula(left), Formula(right)))
        p, q = read("p"), read("q")
        one, other = (p - q) * (p - q), read("p + q - pq - qp")
        self.assertIs(same(one=one, other=other), True)
        self.assertIsNone(parting(one=one, other=other))
        self.assertIs(same((p + q) * p * (p + q), p * (p + q) + q * p * (p + q)), True)

    def test_formulas_that_differ(self):
        texts = [("pq", "qp"), ("p", "q"), ("0", "1"), ("pq", "pqp"), ("pq - pqp", "0"), ("1", "1 - pqpqpq"), ("2 p", "3 p"), ("pqp", "qpq")]
        texts += [("pqp", "pqpqp"), ("pqpqpq", "qpqpqp"), ("pq - qp", "0"), ("p + q", "1"), ("0", "1/999999999 qpqpq")]
        for left, right in texts:
            self.assert_parted(read(left), read(right))
            self.assert_parted(read(right), read(left))

    def test_one_number_alone(self):
        source = random.Random(9)
        formula = some_formula(source, 13, large_number)
        for row in ROWS:
            for step in (1, Fraction(1, BIG)):
                self.assert_parted(formula, formula + Formula({row: ratio(step)}))

    def test_on_the_planes_alone(self):
        for text in ("pq - qp", "pq - pqp", "pqp - pqpqp", "pqpq - qpqp", "pq + qp - 2 pqp", "pq - pqpqpq", "3 pqp - 3 qpq"):
            formula = read(text)
            self.assertEqual([value(formula, *line(name)) for name in LINES], [zeros(1)] * 4)
            self.assertEqual(len(parting(formula, read("0"))[0]), 2)
            self.assert_parted(formula, read("0"))

    def test_on_one_line_alone(self):
        """Each is zero on three lines; on the planes it is not, since it would be the same as 0 then."""
        formulas = {"both": "pqp", "p": "p - pqp", "q": "q - qpq", "none": "1 - p - q + pq"}
        for name, text in formulas.items():
            values = {other: value(read(text), *line(other)).rows()[0][0] for other in LINES}
            self.assertEqual(values, {other: 1 if other == name else 0 for other in LINES})
            self.assert_parted(read(text), read("0"))

    def test_many_planes_on_which_they_do_not_differ(self):
        """They are zero on the lines and on many planes whose numbers come to mind first."""
        factor = Formula({"": 1})
        p, q = read("p"), read("q")
        for number in [*(Fraction(1, at) for at in range(2, 9)), Fraction(2, 3), Fraction(3, 4), Fraction(2, 5)]:
            factor = factor * (p * q * p - p.times(angle(ratio(number))))
        self.assert_parted((p * q - q * p) * factor, read("0"))
        self.assert_parted(factor * (p * q - p * q * p), read("0"))

    def test_many_pairs_of_formulas(self):
        source = random.Random(10)
        for _ in range(40):
            one, other = some_formula(source, 3), some_formula(source, 3)
            self.assertIs(same(one, other), one == other)
            if one != other:
                self.assert_parted(one, other)


if __name__ == "__main__":
    unittest.main()

"""Points 4, 7 and 19: formulas."""

import random
import unittest
from fractions import Fraction

from filterorders.errors import BadNumber, BadRow
from filterorders.formulas import Formula, opposite
from filterorders.ratios import Ratio
from tests.tools import BIG, NOT_NUMBERS, PRIME, ROWS, fraction, large_number, ratio, read, small_number, some_formula

P, Q, NOTHING, ONE = Formula({"p": 1}), Formula({"q": 1}), Formula({}), Formula({"": 1})
NOT_ROWS = ["r", "P", "Q", "pQ", "p q", " p", "p ", "pqx", "xpq", "pxq", "1", "+", "p\n", "\n", " ", "pp q", "\u03c1"]
NOT_ROWS += [0, 1, -1, None, True, False, 1.5, b"p", b"", ("p",), (), Ratio, int, len]


def plain_form(terms):
    """The form, from the definition: rows shortened, equal ones put together, zeros left out."""
    total = {}
    for row, number in terms.items():
        while "pp" in row or "qq" in row:
            row = row.replace("pp", "p").replace("qq", "q")
        total[row] = total.get(row, 0) + number
    return {row: number for row, number in total.items() if number != 0}


def plain_terms(formula):
    return {row: fraction(number) for row, number in formula.terms().items()}


def some_terms(source, many=6, letters=6):
    rows = ["".join(source.choice("pq") for _ in range(source.randint(0, letters))) for _ in range(many)]
    return {row: small_number(source) for row in rows}


def made_of(terms):
    return Formula({row: ratio(number) for row, number in terms.items()})


class FormTest(unittest.TestCase):
    def assert_terms(self, formula, wanted):
        self.assertEqual(formula.terms(), wanted)
        self.assertEqual(list(formula.terms()), list(wanted))

    def test_letters_side_by_side(self):
        for row, wanted in [("pp", "p"), ("qqq", "q"), ("ppqq", "pq"), ("pqqp", "pqp"), ("pqpq", "pqpq"), ("qqppqq", "qpq")]:
            self.assert_terms(Formula({row: 3}), {wanted: 3})

    def test_rows_that_fall_together(self):
        self.assert_terms(Formula({"pp": 3, "p": 4, "ppp": Ratio(1, 2)}), {"p": Ratio(15, 2)})
        self.assert_terms(Formula({"pqqp": 1, "ppqp": 1, "q": 5}), {"q": 5, "pqp": 2})

    def test_rows_that_cancel(self):
        self.assert_terms(Formula({"pp": 3, "p": -3}), {})
        self.assert_terms(Formula({"pqq": Ratio(1, 3), "q": 1, "ppq": Ratio(-1, 3)}), {"q": 1})
        self.assert_terms(Formula({"p": 0, "": Ratio(0), "q": 2, "pq": Ratio(0, 5)}), {"q": 2})

    def test_the_empty_row_and_the_empty_dict(self):
        self.assert_terms(Formula({"": 5}), {"": 5})
        self.assert_terms(Formula({"": 0}), {})
        self.assert_terms(Formula({}), {})
        self.assert_terms(Formula({"": 2, "p": 1, "pp": -1}), {"": 2})

    def test_the_order(self):
        terms = {row: at + 1 for at, row in enumerate(reversed(ROWS))}
        self.assert_terms(Formula(terms), {row: terms[row] for row in ROWS})
        self.assert_terms(Formula({"qp": 1, "pq": 2, "q": 3, "p": 4, "": 5}), {"": 5, "p": 4, "q": 3, "pq": 2, "qp": 1})
        self.assert_terms(Formula({"qqqq": 1, "pqp": 2, "pp": 3}), {"p": 3, "q": 1, "pqp": 2})

    def test_forms_of_many_formulas(self):
        source = random.Random(19)
        for _ in range(60):
            terms = some_terms(source)
            self.assertEqual(plain_terms(made_of(terms)), plain_form(terms))

    def test_numbers_are_ratios(self):
        for number in Formula({"": 1, "p": -2, "pq": Ratio(1, 2), "qp": Ratio(4, 2)}).terms().values():
            self.assertIsInstance(number, Ratio)
        self.assertIsInstance(Formula({}).terms(), dict)

    def test_dicts_are_copied(self):
        terms = {"p": 1, "pq": 2}
        made = Formula(terms)
        terms["p"] = 9
        terms["q"] = 3
        self.assertEqual(made.terms(), {"p": 1, "pq": 2})
        told = made.terms()
        told["p"] = Ratio(8)
        del told["pq"]
        self.assertEqual(made.terms(), {"p": 1, "pq": 2})
        self.assertIsNot(made.terms(), made.terms())
        self.assertEqual(terms, {"p": 9, "pq": 2, "q": 3})

    def test_names_of_arguments(self):
        self.assertEqual(Formula(terms={"p": 1}), P)
        self.assertEqual(P.times(number=2), Formula({"p": 2}))
        self.assertEqual(opposite(formula=P), Formula({"": 1, "p": -1}))

    def test_numbers_and_rows_at_the_limits(self):
        rows = ["".join(letters) for letters in zip("pqpqpqpqpqpqpqpq", "qqpp" * 4, "pppq" * 4, "qpqqpqpp" * 2, "qpp" * 6, "pq" * 8)]
        terms = {row: Fraction(BIG - at, PRIME + at) for at, row in enumerate(rows)}
        self.assertEqual(plain_terms(made_of(terms)), plain_form(terms))
        self.assertEqual(Formula({"pq" * 50: 1}).degree(), 100)


class WrongTermsTest(unittest.TestCase):
    def test_keys_that_are_no_rows(self):
        for row in NOT_ROWS:
            with self.subTest(row=row), self.assertRaises(BadRow) as caught:
                Formula({row: 1})
            self.assertIs(caught.exception.row, row)

    def test_the_first_wrong_key_counts(self):
        for row in NOT_ROWS:
            with self.subTest(row=row), self.assertRaises(BadRow) as caught:
                Formula({"p": 1, "": 2, row: 3, "later": 4, "q": 5, 7: 6})
            self.assertIs(caught.exception.row, row)

    def test_values_that_are_no_numbers(self):
        for given in NOT_NUMBERS:
            for terms in ({"p": given}, {"": given}, {"p": 1, "pq": given, "q": "later", "qp": None}):
                with self.subTest(given=given), self.assertRaises(BadNumber) as caught:
                    Formula(terms)
                self.assertIs(caught.exception.given, given)

    def test_a_wrong_value_of_a_row_that_would_cancel(self):
        with self.assertRaises(BadNumber):
            Formula({"p": 1, "pp": -1, "ppp": False})

    def test_keys_are_checked_before_values(self):
        for terms in ({"p": "x", "r": 1}, {"p": None, "q": 2, 5: None}, {"r": "x"}):
            with self.assertRaises(BadRow) as caught:
                Formula(terms)
            self.assertEqual(caught.exception.row, list(terms)[-1])


class OperationsTest(unittest.TestCase):
    def test_sums_differences_products(self):
        source = random.Random(20)
        for _ in range(60):
            left, right = some_terms(source), some_terms(source)
            one, other = made_of(left), made_of(right)
            total, rest, whole = dict(left), dict(left), {}
            for row, number in right.items():
                total[row] = total.get(row, 0) + number
                rest[row] = rest.get(row, 0) - number
            for row, number in left.items():
                for behind, factor in right.items():
                    whole[row + behind] = whole.get(row + behind, 0) + number * factor
            self.assertEqual(plain_terms(one + other), plain_form(total))
            self.assertEqual(plain_terms(one - other), plain_form(rest))
            self.assertEqual(plain_terms(one * other), plain_form(whole))

    def test_products_put_the_first_rows_first(self):
        self.assertEqual((P * Q).terms(), {"pq": 1})
        self.assertEqual((Q * P).terms(), {"qp": 1})
        self.assertEqual((P * P).terms(), {"p": 1})
        self.assertEqual((P * Q * Q * P).terms(), {"pqp": 1})
        self.assertEqual(((P + Q) * (P - Q)).terms(), {"p": 1, "q": -1, "pq": -1, "qp": 1})

    def test_the_zero_formula_and_the_one(self):
        one = read("2 - p + 1/3 qp")
        self.assertEqual((one + NOTHING, NOTHING + one, one - NOTHING, NOTHING - one), (one, one, one, -one))
        self.assertEqual((one * NOTHING, NOTHING * one, one - one, -NOTHING), (NOTHING,) * 4)
        self.assertEqual((one * ONE, ONE * one), (one, one))

    def test_the_opposite_numbers_and_times(self):
        one = read("2 - p + 1/3 qp")
        self.assertEqual((-one).terms(), {"": -2, "p": 1, "qp": Ratio(-1, 3)})
        self.assertEqual(one.times(Ratio(-3, 2)).terms(), {"": -3, "p": Ratio(3, 2), "qp": Ratio(-1, 2)})
        self.assertEqual(one.times(1), one)
        self.assertEqual((one.times(0), one.times(Ratio(0))), (NOTHING, NOTHING))

    def test_mirror(self):
        self.assertEqual(read("1 + p - 2 pq + qpq + 3 pqpq").mirror(), read("1 + p - 2 qp + qpq + 3 qpqp"))
        source = random.Random(21)
        for _ in range(40):
            terms = some_terms(source)
            wanted = {}
            for row, number in plain_form(terms).items():
                wanted[row[::-1]] = number
            self.assertEqual(plain_terms(made_of(terms).mirror()), wanted)

    def test_mirrors_of_products(self):
        source = random.Random(22)
        for _ in range(20):
            one, other = some_formula(source), some_formula(source)
            self.assertEqual((one * other).mirror(), other.mirror() * one.mirror())
            self.assertIs((one.mirror() * one).is_mirror(), True)
            self.assertIs((one + one.mirror()).is_mirror(), True)

    def test_is_mirror(self):
        for text in ("0", "1", "p", "-2/3 q", "pqp", "pq + qp", "1 - pq - qp + 2 pqpq + 2 qpqp", "p + 2 q + pqpqp"):
            self.assertIs(read(text).is_mirror(), True)
        for text in ("pq", "qp", "pq - qp", "pq + 2 qp", "p + qp", "pq + qpqp", "pq + qp + pqpq", "1/2 pq + 1/3 qp"):
            self.assertIs(read(text).is_mirror(), False)
        self.assertIs(Formula({"ppq": 1, "qp": 2, "qqp": -1}).is_mirror(), True)

    def test_degree(self):
        wanted = {"0": 0, "7": 0, "p": 1, "1 - q": 1, "pq": 2, "p - pqp": 3, "qpqp": 4, "1 + pqpqpq": 6}
        self.assertEqual({text: read(text).degree() for text in wanted}, wanted)
        self.assertEqual(Formula({"ppppqq": 1}).degree(), 2)
        self.assertEqual(Formula({"pqp": 1, "ppqp": -1, "qq": 1}).degree(), 1)
        self.assertEqual(Formula({"pqp": 0}).degree(), 0)

    def test_opposite(self):
        self.assertEqual(opposite(P).terms(), {"": 1, "p": -1})
        self.assertEqual(opposite(read("1/2 - pq")).terms(), {"": Ratio(1, 2), "pq": 1})
        self.assertEqual((opposite(ONE), opposite(NOTHING), opposite(opposite(P))), (NOTHING, ONE, P))
        self.assertEqual(opposite(P) * P, NOTHING)

    def test_equality(self):
        self.assertTrue(Formula({"pp": 3, "": Ratio(4, 2), "q": 0}) == Formula({"": 2, "p": 3}))
        self.assertTrue(Formula({"p": 1, "q": 2}) == Formula({"q": 2, "p": 1}))
        for other in ({"p": 1}, {"p": 3}, {"": 2}, {"": 2, "q": 3}, {"": 2, "p": 3, "q": 1}, {"": Ratio(2, 3), "p": 3}, {}):
            self.assertFalse(Formula({"": 2, "p": 3}) == Formula(other))
            self.assertTrue(Formula({"": 2, "p": 3}) != Formula(other))

    def test_objects_of_other_classes_are_not_equal(self):
        for other in ({"p": 1}, "p", 1, None, [], ["p"], Ratio(1), True):
            self.assertIs(P == other, False)
            self.assertIs(other == P, False)
        for other in ({}, 0, "0", None, "", False, Ratio(0), []):
            self.assertIs(NOTHING == other, False)
        self.assertIs(ONE == 1, False)

    def test_operations_make_formulas_and_leave_their_arguments_alone(self):
        one, other = read("2 - p + 1/3 qp"), read("q - pq")
        made = [one + other, one - other, one * other, -one, one.times(3), one.mirror(), opposite(one)]
        for formula in made:
            self.assertIsInstance(formula, Formula)
            for number in formula.terms().values():
                self.assertIsInstance(number, Ratio)
        self.assertEqual((one.text(), other.text()), ("2 - p + 1/3 qp", "q - pq"))

    def test_products_of_large_formulas(self):
        source = random.Random(23)
        one, other = some_formula(source, 13, large_number), some_formula(source, 13, large_number)
        found = plain_terms(one * other)
        wanted = {}
        for row, number in plain_terms(one).items():
            for behind, factor in plain_terms(other).items():
                wanted[row + behind] = wanted.get(row + behind, 0) + number * factor
        self.assertEqual(found, plain_form(wanted))
        self.assertEqual((one * other).degree(), 12)


if __name__ == "__main__":
    unittest.main()

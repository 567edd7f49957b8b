"""Point 20: texts of formulas."""

import random
import unittest

from filterorders.errors import BadText
from filterorders.formulas import Formula
from filterorders.ratios import Ratio
from tests.tools import BIG, PRIME, large_number, some_formula

TEXTS = {
    "0": {},
    "1": {"": 1},
    "-1": {"": -1},
    "2/3": {"": Ratio(2, 3)},
    "-5/7": {"": Ratio(-5, 7)},
    "p": {"p": 1},
    "-p": {"p": -1},
    "2 p": {"p": 2},
    "-2 p": {"p": -2},
    "1/2 pq": {"pq": Ratio(1, 2)},
    "-1/2 pq": {"pq": Ratio(-1, 2)},
    "1 + p": {"": 1, "p": 1},
    "1 - p": {"": 1, "p": -1},
    "-1 - p": {"": -1, "p": -1},
    "pq + qp": {"pq": 1, "qp": 1},
    "-pq - qp": {"pq": -1, "qp": -1},
    "qp + pqp": {"qp": 1, "pqp": 1},
    "p + q - pq - qp": {"p": 1, "q": 1, "pq": -1, "qp": -1},
    "-1/2 + 3 p": {"": Ratio(-1, 2), "p": 3},
    "-1/2 + 3 p - q + 2/3 pqp": {"": Ratio(-1, 2), "p": 3, "q": -1, "pqp": Ratio(2, 3)},
    "10 q - 11 pqpqpq": {"q": 10, "pqpqpq": -11},
    "-p + 2 pqp": {"p": -1, "pqp": 2},
}
WRONG = [
    "", " ", "\n", "-", "+", "-0", "+0", "00", "01", "+1", "1/1", "0/1", "2/4", "1/0", "1/-2", "--1", "- 1", "1.0", "--0",
    "1 p", "+ p", "+p", "p + 0", "0 p", "0 + p", "-0 p", "pp", "qq", "pqq", "p  + q", "p +  q", "p+q", "p +q", "p+ q",
    " p", "p ", " 0", "0 ", "p + q ", " p + q", "2/4 p", "p - -q", "p + -q", "p + +q", "p - - q", "p - 0", "p - q - 0",
    "q + p", "qp + pq", "p + 1", "pq + p", "pqp + qp", "p + p", "p - p", "p + 2 p", "pq + pq", "1 + 1", "1 - 1", "2 + 3",
    "p\n", "\np", "p\n+ q", "p +\nq", "p + q\n", "1\n", "p + q +", "p + q -", "p +", "p -", "+ p + q", "- p", "- p + q",
    "2p", "2  p", " 2 p", "2 p ", "p 2", "2 * p", "2*p", "p q", "p p", "2 p q", "2 3 p", "2 3", "-1 p", "1 - 1 p", "p + 1 q",
    "01 p", "+2 p", "1/2p", "1/2 p + 2/4 q", "2/1 p", "P", "pQ", "r", "p + r", "2 r", "x", "p + x", "(p)", "p/2", "2/p",
    "1 + pp", "p + qpp", "p,q", "p + q + ", " + p", "1  ", "1 +  ", "\t", "p\tq", "--p", "-+p", "+-p", "p -q", "-p -q", "-p - -1",
    "p + -1", "1 + -1 p", "1/2/3 p", "/2 p", "1/ p", "1 /2", "\u0661", "\u00b2 p", "None", "1e3", "0x1", "1_0", "1_0 p",
]


class TextTest(unittest.TestCase):
    def test_the_text(self):
        for text, terms in TEXTS.items():
            self.assertEqual(Formula(terms).text(), text)

    def test_the_text_is_that_of_the_form(self):
        self.assertEqual(Formula({"q": 1, "pp": 3, "p": -2, "qq": 0}).text(), "p + q")
        self.assertEqual(Formula({"pq": 1, "ppq": -1}).text(), "0")
        self.assertEqual(Formula({"qp": 1, "pq": 2, "": 3, "q": 4, "p": 5}).text(), "3 + 5 p + 4 q + 2 pq + qp")

    def test_reading_a_text(self):
        for text, terms in TEXTS.items():
            made = Formula.read(text)
            self.assertIsInstance(made, Formula)
            self.assertEqual(made, Formula(terms))
            self.assertEqual(made.terms(), terms)
        self.assertEqual(Formula.read(text="p - q"), Formula({"p": 1, "q": -1}))

    def test_other_strings_are_an_error(self):
        for text in WRONG:
            with self.subTest(text), self.assertRaises(BadText):
                Formula.read(text)

    def test_texts_of_many_formulas(self):
        source = random.Random(24)
        for _ in range(80):
            made = some_formula(source, source.randint(0, 8))
            self.assertEqual(Formula.read(made.text()), made)
            self.assertEqual(Formula.read(made.text()).text(), made.text())

    def test_texts_with_one_character_changed(self):
        """Each string near a text is read as what it says, or not at all."""
        for text in TEXTS:
            for at in range(len(text) + 1):
                for letter in "pq+-/ 012\n":
                    for changed in (text[:at] + letter + text[at:], text[:at] + letter + text[at + 1:], text[:at] + text[at + 1:]):
                        try:
                            made = Formula.read(changed)
                        except BadText:
                            continue
                        self.assertEqual(made.text(), changed)

    def test_long_texts(self):
        source = random.Random(25)
        made = some_formula(source, 13, large_number)
        self.assertGreater(len(made.text()), 900)
        self.assertEqual(Formula.read(made.text()), made)
        self.assertEqual(Formula.read("pq" * 250).degree(), 500)
        self.assertEqual(Formula.read("9" * 498 + " p").terms(), {"p": 10 ** 498 - 1})
        self.assertEqual(Formula({"q": Ratio(-BIG, PRIME)}).text(), f"-{BIG}/{PRIME} q")
        for text in ("p" * 500, "pq" * 249 + "q", "1" * 248 + "/" + "1" * 250, "9" * 497 + " pp", "p + " * 125, "-" * 500, " " * 500):
            with self.assertRaises(BadText):
                Formula.read(text)

    def test_numbers_of_thousands_of_digits(self):
        number = Ratio(7, 3)
        for _ in range(13):
            number = number * number
        made = Formula({"": -number, "pq": number})
        self.assertGreater(len(made.text()), 4300)
        self.assertEqual(Formula.read(made.text()), made)


if __name__ == "__main__":
    unittest.main()

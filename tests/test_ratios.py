"""Points 2, 7, 11 and 12: Ratios."""

import unittest
from fractions import Fraction

from filterorders.errors import BadNumber, BadText, ByZero
from filterorders.ratios import Ratio, as_ratio, sign
from tests.tools import BIG, NOT_NUMBERS, PRIME, fraction, ratio

VALUES = [Fraction(top, bottom) for top in (-7, -3, -2, -1, 0, 1, 2, 3, 6) for bottom in (1, 2, 3, 4)]
VALUES += [Fraction(BIG, PRIME), Fraction(-PRIME, BIG), Fraction(BIG), Fraction(-1, BIG), Fraction(1, PRIME)]


class LowestTermsTest(unittest.TestCase):
    def test_top_and_bottom_are_in_lowest_terms(self):
        for top in range(-12, 13):
            for bottom in [*range(-12, 0), *range(1, 13)]:
                made = Ratio(top, bottom)
                wanted = Fraction(top, bottom)
                self.assertEqual((made.top, made.bottom), (wanted.numerator, wanted.denominator))

    def test_zero_has_the_bottom_one(self):
        for bottom in (1, -1, 7, -12, BIG):
            self.assertEqual((Ratio(0, bottom).top, Ratio(0, bottom).bottom), (0, 1))

    def test_top_and_bottom_are_integers(self):
        made = Ratio(-6, -4)
        self.assertIs(type(made.top), int)
        self.assertIs(type(made.bottom), int)

    def test_the_bottom_is_one_if_left_out(self):
        self.assertEqual((Ratio(-5).top, Ratio(-5).bottom), (-5, 1))

    def test_names_of_the_arguments(self):
        made = Ratio(bottom=-4, top=6)
        self.assertEqual((made.top, made.bottom), (-3, 2))
        self.assertEqual(Ratio(top=3), 3)

    def test_bottom_zero_is_an_error(self):
        for top in (0, 1, -1, BIG):
            with self.assertRaises(ByZero):
                Ratio(top, 0)
            with self.assertRaises(ByZero):
                Ratio(top, bottom=0)

    def test_large_integers(self):
        made = Ratio(BIG * PRIME, -BIG * BIG)
        self.assertEqual(fraction(made), Fraction(-PRIME, BIG))
        self.assertGreater(made.bottom, 0)

    def test_top_and_bottom_cannot_be_changed(self):
        made = Ratio(1, 2)
        for name in ("top", "bottom"):
            with self.assertRaises(AttributeError):
                setattr(made, name, 5)
        self.assertEqual((made.top, made.bottom), (1, 2))


class ArithmeticTest(unittest.TestCase):
    def assert_lowest(self, made, wanted):
        self.assertIsInstance(made, Ratio)
        self.assertEqual((made.top, made.bottom), (wanted.numerator, wanted.denominator))

    def test_operations_with_a_ratio_on_the_right(self):
        for one in VALUES:
            for other in VALUES:
                left, right = ratio(one), ratio(other)
                self.assert_lowest(left + right, one + other)
                self.assert_lowest(left - right, one - other)
                self.assert_lowest(left * right, one * other)
                self.assertIs(left == right, one == other)
                self.assertIs(left != right, one != other)
                self.assertIs(left < right, one < other)
                self.assertIs(left <= right, one <= other)
                if other != 0:
                    self.assert_lowest(left.over(right), one / other)

    def test_operations_with_an_integer_on_the_right(self):
        for one in VALUES:
            for other in (-4, -3, -1, 0, 1, 2, 3, BIG, -BIG):
                left = ratio(one)
                self.assert_lowest(left + other, one + other)
                self.assert_lowest(left - other, one - other)
                self.assert_lowest(left * other, one * other)
                self.assertIs(left == other, one == other)
                self.assertIs(left != other, one != other)
                self.assertIs(left < other, one < other)
                self.assertIs(left <= other, one <= other)
                if other != 0:
                    self.assert_lowest(left.over(other), one / other)

    def test_the_opposite_number(self):
        for one in VALUES:
            self.assert_lowest(-ratio(one), -one)

    def test_over_zero_is_an_error(self):
        for left in (Ratio(0), Ratio(3, 4), Ratio(-BIG)):
            for zero in (0, Ratio(0), Ratio(0, -7)):
                with self.assertRaises(ByZero):
                    left.over(zero)
        self.assertEqual(Ratio(1, 2).over(number=Ratio(-1, 3)), Ratio(-3, 2))

    def test_operations_leave_their_arguments_alone(self):
        left, right = Ratio(3, 4), Ratio(-5, 6)
        for made in (left + right, left - right, left * right, -left, left.over(right), left < right, left == right):
            del made
        self.assertEqual((left.top, left.bottom, right.top, right.bottom), (3, 4, -5, 6))


class EqualityTest(unittest.TestCase):
    def test_a_ratio_is_not_equal_to_what_is_no_number(self):
        for given in NOT_NUMBERS + ["1/2", "0", (1, 2), [1, 2], float("nan")]:
            for made in (Ratio(0), Ratio(1), Ratio(1, 2)):
                with self.subTest(given=given):
                    self.assertIs(made == given, False)
                    self.assertIs(given == made, False)
                    self.assertIs(made != given, True)

    def test_a_ratio_is_equal_to_an_integer_with_the_same_value(self):
        self.assertTrue(Ratio(4, 2) == 2)
        self.assertTrue(2 == Ratio(4, 2))
        self.assertFalse(Ratio(5, 2) == 2)
        self.assertFalse(Ratio(-2) == 2)


class TextTest(unittest.TestCase):
    def test_the_text(self):
        texts = [(Ratio(-2, 5), "-2/5"), (Ratio(3), "3"), (Ratio(0), "0"), (Ratio(-7), "-7"), (Ratio(6, -4), "-3/2")]
        texts += [(Ratio(BIG, PRIME), f"{BIG}/{PRIME}"), (Ratio(1, 10), "1/10"), (Ratio(-10 ** 64), "-1" + "0" * 64)]
        for made, text in texts:
            self.assertEqual(made.text(), text)

    def test_reading_a_text(self):
        for value in VALUES:
            made = Ratio.read(ratio(value).text())
            self.assertIsInstance(made, Ratio)
            self.assertEqual(fraction(made), value)
            self.assertEqual(fraction(Ratio.read(str(value))), value)
        self.assertEqual(Ratio.read(text="-12/35"), Ratio(-12, 35))

    def test_other_strings_are_an_error(self):
        wrong = ["2/4", "+3", "-0", "1/1", "1/0", "01", " 1", "1/-2", "", "-", "/", "0/1", "0/5", "-0/5", "00", "1/02"]
        wrong += ["1 ", "1/ 2", "1 /2", "1/2 ", "1/2/3", "--1", "-+1", "1/", "/2", "-/2", "-1/-2", "1.0", "1e3", "0x1"]
        wrong += ["1_000", "1\n", "\n1", "p", "1/p", "-01", "10/100", "1//2", "3/+4", "4/2", "\u0661", "\u00b2"]
        wrong += ["-1/0", "0/0", "1" * 500 + "/" + "1" * 500, "- 1", "1-", "None", "True"]
        for text in wrong:
            with self.subTest(text), self.assertRaises(BadText):
                Ratio.read(text)

    def test_texts_of_ratios_of_thousands_of_digits(self):
        made = Ratio(7, 3)
        for _ in range(13):
            made = made * made
        self.assertGreater(made.bottom, 10 ** 3000)
        text = (-made).text()
        self.assertEqual(Ratio.read(text), -made)
        top, bottom = text[1:].split("/")
        for digits, value in ((top, made.top), (bottom, made.bottom)):
            self.assertEqual(digits[-40:], str(value % 10 ** 40))
            self.assertTrue(10 ** (len(digits) - 1) <= value < 10 ** len(digits))
        self.assertGreater(len(top), 4300)

    def test_digits_at_the_seams_of_long_texts(self):
        for size in (63, 64, 65, 127, 128, 129, 192):
            for value in (10 ** size, 10 ** size - 1, 10 ** size + 1, 3 * 10 ** size + 10 ** (size // 2)):
                self.assertEqual(Ratio(value).text(), str(value))
                self.assertEqual(Ratio(-1, value).text(), f"-1/{value}")
                self.assertEqual(Ratio.read(str(value)).top, value)


class NumbersTest(unittest.TestCase):
    def test_as_ratio_of_numbers(self):
        for value in (0, 5, -3, BIG, -BIG):
            made = as_ratio(value)
            self.assertIsInstance(made, Ratio)
            self.assertEqual((made.top, made.bottom), (value, 1))
        made = as_ratio(given=Ratio(-4, 6))
        self.assertIsInstance(made, Ratio)
        self.assertEqual((made.top, made.bottom), (-2, 3))

    def test_as_ratio_of_anything_else_is_an_error(self):
        for given in NOT_NUMBERS:
            with self.subTest(given=given), self.assertRaises(BadNumber) as caught:
                as_ratio(given)
            self.assertIs(caught.exception.given, given)

    def test_sign(self):
        signs = [(3, 1), (0, 0), (-2, -1), (BIG, 1), (-BIG, -1), (Ratio(1, 9), 1), (Ratio(-1, 9), -1), (Ratio(0, 3), 0)]
        signs += [(Ratio(1, BIG), 1), (Ratio(1, -BIG), -1)]
        for number, wanted in signs:
            self.assertEqual(sign(number), wanted)
            self.assertIs(type(sign(number)), int)
        self.assertEqual(sign(number=Ratio(-1, 2)), -1)


if __name__ == "__main__":
    unittest.main()

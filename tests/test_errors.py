"""Points 8 and 10: the error classes."""

import unittest

from filterorders import errors

PLAIN = [
    "ByZero", "BadText", "ZeroPolynomial", "BadRoot", "BadStretch", "BadTable", "UnlikeTables", "BadBeam",
    "NotFilter", "NotMirror", "BadCounts", "Clash", "NothingToUndo", "NothingToRedo",
]
WITH_ATTRIBUTE = {
    "BadNumber": "given", "BadRow": "row", "NoLine": "name", "BadAnswer": "answer", "BadShare": "given",
    "Never": "answer", "BadLine": "line",
}


class ErrorsTest(unittest.TestCase):
    def test_filter_error_is_a_direct_subclass_of_value_error(self):
        self.assertEqual(errors.FilterError.__bases__, (ValueError,))

    def test_all_are_direct_subclasses_of_filter_error(self):
        for name in PLAIN + list(WITH_ATTRIBUTE):
            with self.subTest(name):
                self.assertEqual(getattr(errors, name).__bases__, (errors.FilterError,))

    def test_no_two_names_are_the_same_class(self):
        names = PLAIN + list(WITH_ATTRIBUTE)
        self.assertEqual(len(names), 21)
        self.assertEqual(len({getattr(errors, name) for name in names}), 21)

    def test_errors_without_attributes_are_created_without_values(self):
        for name in PLAIN:
            with self.subTest(name), self.assertRaises(errors.FilterError):
                raise getattr(errors, name)()

    def test_errors_keep_the_very_values(self):
        values = [0, 5, -1, True, None, "", "pq", 1.5, [1, [2]], {"a": []}, (1,), object(), ValueError, 10 ** 5000]
        for name, attribute in WITH_ATTRIBUTE.items():
            for value in values:
                with self.subTest(name):
                    kind = getattr(errors, name)
                    self.assertIs(getattr(kind(value), attribute), value)
                    self.assertIs(getattr(kind(**{attribute: value}), attribute), value)

    def test_errors_with_an_attribute_need_their_value(self):
        for name in WITH_ATTRIBUTE:
            with self.subTest(name), self.assertRaises(TypeError):
                getattr(errors, name)()

    def test_they_are_caught_as_value_errors(self):
        for name in WITH_ATTRIBUTE:
            with self.subTest(name), self.assertRaises(ValueError):
                raise getattr(errors, name)("x")


if __name__ == "__main__":
    unittest.main()

"""Points 6 and 30 to 33: readings, shapes, and what holds for all filters and beams."""

import math
import random
import unittest
from fractions import Fraction

from filterorders.bounds import at_most, counter, never_negative, reading, shape, strength_at_most
from filterorders.errors import BadBeam, NotFilter, NotMirror, UnlikeTables
from filterorders.formulas import Formula
from filterorders.polynomials import Polynomial
from filterorders.ratios import Ratio
from filterorders.tables import Table, is_filter, line, plane, value
from tests.test_filters import NOT_FILTERS
from tests.tools import BIG, NOT_NUMBERS, PRIME, ROWS
from tests.tools import fraction, fractions_of, items_of, large_number, ratio, read, some_beams, some_filter, some_formula
from tests.tools import value_rows, zeros

TINY = Fraction(1, BIG)
NOT_MIRRORS = ["pq", "qp", "pq - qp", "pq + 2 qp", "1 + p + q - pq", "pqpq", "pq + qp + pqpq", "pqp + qpqp", "1/2 pq + 1/3 qp"]
NEVER_NEGATIVE = [
    "0", "1", "p", "q", "1/999 p", "p + q", "pqp", "qpq", "1 - p", "1 - q", "1 - pqp", "p - pqp", "q - qpq", "2 - p - q",
    "p + q - pq - qp", "1 + pq + qp - pqp", "p + q + pq + qp", "pqp - pqpqp", "1 - p - q + pq + qp", "1/4 + pq + qp",
    "p - 2 pqp + pqpqp", "p - 4 pqp + 4 pqpqp", "2 + pq + qp", "1 - pqpqp", "pqp - 2 pqpqp + pqpqpqp",
]
SOMEWHERE_NEGATIVE = [
    "-1", "-p", "-1/999 q", "p - q", "-p + q", "1 - 2 p", "-1/2 + p + q", "pq + qp", "-pq - qp", "p - 2 pqp", "-p + pqp",
    "pqp - qpq", "1 - p - q", "6/25 + pq + qp", "q - pq - qp", "p + q - 3/2 pq - 3/2 qp", "1 - pq - qp", "-1/2 p + pqp",
    "3 - 2 p - 2 q", "p - 3 pqp + 2 pqpqp", "1 - 9/8 pqp", "p + pq + qp", "pq + qp + qpq", "2 p + q - 2 pq - 2 qp",
    "q - pqp", "-q + pqp", "pq + qp - 2 pqp", "-pq - qp + 2 pqp", "-q + pq + qp - pqp", "-p + pq + qp - qpq", "p - qpq",
    "-1 + p", "-1 + q", "-1 + 2 p", "3 p - q", "9 q - 9 pqp",
]
NAMES = ["both", "p", "q", "none"]


def own_mirrors(seed, many, number=None, longest=6):
    source = random.Random(seed)
    for _ in range(many):
        made = some_formula(source, 6, *([] if number is None else [number]), longest=longest)
        yield made + made.mirror()


def constant(number):
    return Formula({"": ratio(number)})


def least_and_greatest(formula):
    """About the least and the greatest reading for beams of the strength 1, from many planes."""
    found = []
    for at in range(401):
        turn = at / 400
        cosine, sine = math.sqrt(turn), math.sqrt(1 - turn)
        filters = {"p": [[1.0, 0.0], [0.0, 0.0]], "q": [[turn, cosine * sine], [cosine * sine, 1 - turn]]}
        total = [[0.0, 0.0], [0.0, 0.0]]
        for row, number in formula.terms().items():
            made = [[1.0, 0.0], [0.0, 1.0]]
            for letter in row:
                made = [[sum(made[i][k] * filters[letter][k][j] for k in (0, 1)) for j in (0, 1)] for i in (0, 1)]
            total = [[total[i][j] + made[i][j] * float(fraction(number)) for j in (0, 1)] for i in (0, 1)]
        middle, half = (total[0][0] + total[1][1]) / 2, (total[0][0] - total[1][1]) / 2
        radius = math.hypot(half, total[0][1])
        found += [middle - radius, middle + radius]
    return min(found), max(found)


class ReadingTest(unittest.TestCase):
    def test_readings(self):
        source = random.Random(30)
        for length in range(1, 5):
            for _ in range(10):
                p, q, formula = some_filter(source, length), some_filter(source, length), some_formula(source)
                beam = some_beams(source, 1, length)[0]
                beam[-1] = beam[-1] * beam[-1] + 1
                rows = value_rows({row: fraction(number) for row, number in formula.terms().items()}, p, q)
                fractions = [fraction(item) for item in beam]
                wanted = sum(fractions[i] * rows[i][j] * fractions[j] for i in range(length) for j in range(length))
                found = reading(formula, p, q, beam)
                self.assertIsInstance(found, Ratio)
                self.assertEqual(fraction(found), wanted)
                self.assertEqual(reading(formula.mirror(), p, q, tuple(beam)), found)

    def test_known_readings(self):
        p, q = plane(Ratio(1, 2))
        self.assertEqual(reading(read("1"), p, q, (3, 4)), 25)
        self.assertEqual((reading(read("p"), p, q, (3, 4)), reading(read("q"), p, q, (3, 4))), (9, 25))
        self.assertEqual((reading(read("pq"), p, q, (3, 4)), reading(read("qp"), p, q, (3, 4))), (9, 9))
        self.assertEqual(reading(read("pqp"), p, q, [5, 7]), 9)
        self.assertEqual(reading(read("0"), p, q, [0, Ratio(1, 2)]), 0)
        self.assertEqual(reading(formula=read("2 - q"), p=p, q=q, beam=[0, 1]), Ratio(34, 25))
        self.assertEqual([reading(read("5 + 2 p - 3 q"), *line(name), [-2]) for name in NAMES], [16, 28, 8, 20])

    def test_the_strength_of_what_is_sent(self):
        source = random.Random(31)
        for _ in range(10):
            p, q, formula = some_filter(source, 3), some_filter(source, 3), some_formula(source)
            sent = value(formula, p, q).sent([1, 2, -1])
            strength = sum(fraction(item) ** 2 for item in sent)
            self.assertEqual(fraction(reading(formula.mirror() * formula, p, q, [1, 2, -1])), strength)

    def test_wrong_beams(self):
        p, q = plane(Ratio(1, 2))
        wrong = [[0, 0], (0, 0), [Ratio(0), 0], [], [1], [1, 2, 3], [0], (), None, 1, "12", {1: 1, 2: 2}, {1, 2}, range(1, 3), True]
        wrong += [[1, given] for given in NOT_NUMBERS] + [[given, 1] for given in NOT_NUMBERS] + [[[1, 2]], iter([1, 2]), p]
        for beam in wrong:
            for formula in (read("pq"), read("0")):
                with self.subTest(beam=beam), self.assertRaises(BadBeam):
                    reading(formula, p, q, beam)
        for beam in ([0], [1, 0], ["1"]):
            with self.assertRaises(BadBeam):
                reading(read("p"), *line("p"), beam)

    def test_the_order_of_the_errors(self):
        for beam in ([1, 2], [0, 0], None):
            for wrong in NOT_FILTERS:
                for p, q in ((wrong, Table.unit(len(wrong))), (Table.unit(3), wrong)):
                    with self.assertRaises(NotFilter):
                        reading(read("1"), p, q, beam)
            with self.assertRaises(UnlikeTables):
                reading(read("0"), Table.unit(2), zeros(1), beam)

    def test_beams_are_left_alone(self):
        beam = [1, 2]
        reading(read("pq"), *plane(2), beam)
        self.assertEqual(beam, [1, 2])

    def test_large_numbers(self):
        source = random.Random(32)
        p, q = some_filter(source, 4, 2, large_number), some_filter(source, 4, 3, large_number)
        formula, beam = some_formula(source, 13, large_number), some_beams(source, 1, 4, large_number)[0]
        rows = items_of(value(formula, p, q))
        fractions = [fraction(item) for item in beam]
        wanted = sum(fractions[i] * rows[i][j] * fractions[j] for i in range(4) for j in range(4))
        self.assertEqual(fraction(reading(formula, p, q, beam)), wanted)


class ShapeTest(unittest.TestCase):
    def assert_shape(self, formula):
        """The trace and determinant on planes, and the sums and products for the lines."""
        found = shape(formula)
        self.assertIsInstance(found, tuple)
        trace, determinant = found
        self.assertIsInstance(trace, Polynomial)
        self.assertIsInstance(determinant, Polynomial)
        for m in [Ratio(at, at + 1) for at in range(1, 8)] + [Ratio(BIG, PRIME), Ratio(1, BIG), -2]:
            p, q = plane(m)
            rows = value(formula, p, q).rows()
            turn = (p * q).trace()
            self.assertEqual(trace.worth(turn), rows[0][0] + rows[1][1])
            self.assertEqual(determinant.worth(turn), rows[0][0] * rows[1][1] - rows[0][1] * rows[1][0])
        for turn, names in ((0, ("p", "q")), (1, ("both", "none"))):
            one, other = [value(formula, *line(name)).trace() for name in names]
            self.assertEqual((trace.worth(turn), determinant.worth(turn)), (one + other, one * other))

    def test_known_shapes(self):
        shapes = {"0": ([], []), "1": ([2], [1]), "-3/2": ([-3], [Fraction(9, 4)]), "p": ([1], []), "q": ([1], []), "p + q": ([2], [1, -1])}
        shapes.update({"pq + qp": ([0, 2], [0, -1, 1]), "pqp": ([0, 1], []), "p + q - pq - qp": ([2, -2], [1, -2, 1])})
        shapes.update({"1 - p": ([1], []), "1 + p": ([3], [2]), "p + qpq": ([1, 1], [0, 1, -1]), "pqpq + qpqp": ([0, 0, 2], [0, 0, 0, -1, 1])})
        for text, (trace, determinant) in shapes.items():
            found = shape(read(text))
            self.assertEqual((fractions_of(found[0]), fractions_of(found[1])), (trace, determinant))
        self.assertEqual(shape(formula=read("p")), (Polynomial([1]), Polynomial([])))

    def test_shapes_of_many_formulas(self):
        for row in ROWS:
            self.assert_shape(Formula({row: 1}) + Formula({row[::-1]: 2}) + Formula({row[::-1]: 1, row: 2}))
        for formula in own_mirrors(33, 12):
            self.assert_shape(formula)
        for formula in own_mirrors(34, 3, large_number):
            self.assert_shape(formula)

    def test_formulas_that_are_not_their_own_mirrors(self):
        for text in NOT_MIRRORS:
            with self.assertRaises(NotMirror):
                shape(read(text))


class NeverNegativeTest(unittest.TestCase):
    def assert_countered(self, formula):
        self.assertIs(never_negative(formula), False)
        found = counter(formula)
        self.assertIsInstance(found, tuple)
        p, q, beam = found
        self.assertEqual((len(p), len(q), len(beam)), (2, 2, 2))
        self.assertEqual((is_filter(p), is_filter(q)), (True, True))
        self.assertIsInstance(beam, list)
        for item in beam:
            self.assertIsInstance(item, Ratio)
        self.assertTrue(reading(formula, p, q, beam) < 0)

    def assert_never_negative(self, formula):
        self.assertIs(never_negative(formula), True)
        self.assertIsNone(counter(formula))

    def test_formulas_that_are_never_negative(self):
        for text in NEVER_NEGATIVE:
            with self.subTest(text):
                self.assert_never_negative(read(text))

    def test_formulas_that_are_negative_somewhere(self):
        for text in SOMEWHERE_NEGATIVE:
            with self.subTest(text):
                self.assert_countered(read(text))
                self.assert_countered(read(text).times(ratio(TINY)))

    def test_never_negative_but_zero_somewhere(self):
        """Squares have 0 as their least reading; a bit less is negative at few angle numbers alone."""
        p, q = read("p"), read("q")
        for made in (p * q - p.times(Ratio(1, 3)), p * q + q * p - constant(2), p - q.times(2), p * q * p - p.times(Ratio(1, 2)), p):
            square = made.mirror() * made
            self.assert_never_negative(square)
            self.assert_countered(square - constant(TINY))
            self.assert_never_negative(square + constant(TINY))

    def test_negative_on_one_line_alone(self):
        formulas = {"both": "p + q - 3 pqp", "p": "1 - 2 p + 2 pqp", "q": "1 - 2 q + 2 pqp", "none": "-1 + p + q"}
        for name, text in formulas.items():
            values = {other: value(read(text), *line(other)).trace() for other in NAMES}
            self.assertEqual([other for other in NAMES if values[other] < 0], [name])
            self.assert_countered(read(text))

    def test_negative_on_planes_alone(self):
        for text in ("pq + qp", "pq + qp - pqp", "p - 3 pqp + 2 pqpqp", "1/5 + pq + qp", "-pqp + pqpqp"):
            for name in NAMES:
                self.assertFalse(value(read(text), *line(name)).trace() < 0)
            self.assert_countered(read(text))

    def test_negative_at_very_few_angle_numbers_alone(self):
        """On a plane (pqp - t p)(pqp - t p) - w p is p, times the square of the distance from t, minus w."""
        p, q = read("p"), read("q")
        for place in (Fraction(1, 2), Fraction(PRIME, BIG), Fraction(9, 25), 1 - Fraction(1, 10 ** 15), Fraction(1, 10 ** 15)):
            part = p * q * p - p.times(ratio(place))
            self.assert_never_negative(part * part)
            self.assert_never_negative(part * part + p.times(ratio(TINY)))
            self.assert_countered(part * part - p.times(ratio(TINY)))
            self.assert_countered(part * part - p.times(ratio(TINY)) + (q - p * q - q * p + p * q * p).times(BIG))
        # The angle number is no quotient of integers.
        part = p * q * p * q * p - p.times(Ratio(1, 2))
        self.assert_never_negative(part * part)
        self.assert_countered(part * part - p.times(ratio(TINY)))

    def test_negative_near_the_ends_alone(self):
        p, q = read("p"), read("q")
        self.assert_countered(p * q * p - p.times(ratio(TINY)))
        self.assert_countered(p.times(ratio(1 - TINY)) - p * q * p)
        self.assert_countered((p * q * p - p.times(ratio(TINY))) * (p * q * p - p.times(ratio(2 * TINY))))
        self.assert_never_negative(p - p * q * p)

    def test_many_formulas(self):
        told = []
        for formula in own_mirrors(35, 40, longest=4):
            least, _ = least_and_greatest(formula)
            for shift in (-2, Fraction(-1, 50), Fraction(1, 50), 1, 3):
                shifted = formula + constant(Fraction(round(-least * 10 ** 6), 10 ** 6) + shift)
                told.append(never_negative(shifted))
                self.assertIs(told[-1], shift > 0, (shifted.text(), least))
                if shift > 0:
                    self.assert_never_negative(shifted)
                else:
                    self.assert_countered(shifted)
        self.assertEqual(set(told), {True, False})

    def test_sums_of_squares(self):
        source = random.Random(36)
        for _ in range(12):
            one, other = some_formula(source), some_formula(source)
            self.assert_never_negative(one.mirror() * one + other.mirror() * other)

    def test_large_numbers(self):
        source = random.Random(37)
        one = some_formula(source, 13, large_number)
        square = one.mirror() * one
        self.assert_never_negative(square)
        self.assert_countered(-square)
        for formula in own_mirrors(38, 4, large_number):
            self.assertIs(counter(formula) is None, never_negative(formula))

    def test_names_of_arguments(self):
        self.assertIs(never_negative(formula=read("p")), True)
        self.assertIsNone(counter(formula=read("p")))

    def test_formulas_that_are_not_their_own_mirrors(self):
        for text in NOT_MIRRORS:
            for function in (never_negative, counter):
                with self.assertRaises(NotMirror):
                    function(read(text))


class AtMostTest(unittest.TestCase):
    def assert_least_bound(self, function, formula, bound):
        for step in (0, TINY, 1, BIG):
            self.assertIs(function(formula, ratio(bound + step)), True)
        for step in (TINY, Fraction(1, 100), 1, BIG):
            self.assertIs(function(formula, ratio(bound - step)), False)

    def assert_about(self, function, formula, bound):
        rough = Fraction(round(bound * 10 ** 6), 10 ** 6)
        self.assertIs(function(formula, ratio(rough + Fraction(1, 50))), True)
        self.assertIs(function(formula, ratio(rough - Fraction(1, 50))), False)

    def test_least_bounds(self):
        bounds = {"0": 0, "1": 1, "-1": -1, "p": 1, "-p": 0, "1/2 q": Fraction(1, 2), "p + q": 2, "pq + qp": 2, "-pq - qp": Fraction(1, 4)}
        bounds.update({"1 - p - q": 1, "p - q": 1, "pqp": 1, "p - pqp": 1, "-p - pq - qp": Fraction(1, 8), "2 - p": 2, "-2 + p": -1})
        bounds.update({"p + q - pq - qp": 1, "pqp - pqpqp": Fraction(1, 4), "-5 + p - q": -4, "p + 2 q + 3 pqp": 6})
        for text, bound in bounds.items():
            with self.subTest(text):
                self.assert_least_bound(at_most, read(text), Fraction(bound))

    def test_least_bounds_of_strengths(self):
        bounds = {"0": 0, "1": 1, "-1": 1, "3/2": Fraction(9, 4), "p": 1, "pq": 1, "qp": 1, "pqpq": 1, "p + q": 4, "p - q": 1, "1 + p": 4}
        bounds.update({"pq - qp": Fraction(1, 4), "pq + qp": 4, "pq - pqp": Fraction(1, 4), "1 - 2 p": 1, "p - pq": 1})
        bounds.update({"1 - 2 p - 2 q + 4 pq": 1, "-2 + 1/3 pqp": 4})
        for text, bound in bounds.items():
            with self.subTest(text):
                self.assert_least_bound(strength_at_most, read(text), Fraction(bound))

    def test_many_formulas(self):
        for formula in own_mirrors(39, 25, longest=4):
            self.assert_about(at_most, formula, least_and_greatest(formula)[1])

    def test_strengths_of_many_formulas(self):
        source = random.Random(40)
        for formula in [read("1 - pq"), read("pq - 2 qp"), *(some_formula(source, 4, longest=3) for _ in range(25))]:
            self.assert_about(strength_at_most, formula, least_and_greatest(formula.mirror() * formula)[1])

    def test_numbers_and_names(self):
        self.assertIs(at_most(formula=read("p"), number=1), True)
        self.assertIs(at_most(read("p"), 0), False)
        self.assertIs(at_most(read("-p"), 0), True)
        self.assertIs(strength_at_most(formula=read("pq"), number=1), True)
        self.assertIs(strength_at_most(read("pq"), Ratio(99, 100)), False)
        self.assertEqual([strength_at_most(read("0"), number) for number in (-1, 0, 1)], [False, True, True])

    def test_large_numbers(self):
        source = random.Random(41)
        for formula in own_mirrors(42, 2, large_number):
            total = sum(abs(fraction(number)) for number in formula.terms().values())
            self.assertIs(at_most(formula, ratio(total)), True)
            self.assertIs(at_most(formula, ratio(-total - 1)), False)
        formula = some_formula(source, 13, large_number)
        total = sum(abs(fraction(number)) for number in formula.terms().values())
        self.assertIs(strength_at_most(formula, ratio(total * total)), True)
        self.assertIs(strength_at_most(formula, ratio(TINY)), False)

    def test_formulas_that_are_not_their_own_mirrors(self):
        for text in NOT_MIRRORS:
            for number in (-5, 0, Ratio(1, 2), 5):
                with self.assertRaises(NotMirror):
                    at_most(read(text), number)
                self.assertIs(strength_at_most(read(text), number + BIG), True)


if __name__ == "__main__":
    unittest.main()

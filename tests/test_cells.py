"""Points 5, 7, 17 and 18: lists of roots, cells, signs from 0 to 1, and angle numbers."""

import random
import unittest
from fractions import Fraction
from math import isqrt

from filterorders.errors import BadStretch, ZeroPolynomial
from filterorders.polynomials import Polynomial
from filterorders.ratios import Ratio, sign
from filterorders.roots import Root, angle, angle_in, cells, nowhere_below, root_count, roots
from tests.tools import BIG, PRIME, fraction, polynomial, ratio, with_roots

ZERO = Polynomial([])
NO_REAL_ROOT = polynomial(1, 0, 1)
SQRT2 = polynomial(-2, 0, 1)
HALF = polynomial(-1, 0, 2)
TINY = Fraction(1, 10 ** 39)
BAD_STRETCHES = [(1, 1), (1, 0), (Ratio(1, 2), Ratio(2, 4)), (Ratio(1, 2), Ratio(1, 3)), (0, -1), (Ratio(0), 0)]


class RootsTest(unittest.TestCase):
    def assert_roots(self, found, places):
        self.assertIsInstance(found, list)
        self.assertEqual(len(found), len(places))
        for root, place in zip(found, places):
            self.assertIsInstance(root, Root)
            self.assertEqual(root.against(ratio(place)), 0)
            self.assertEqual(Root(root.polynomial, root.low, root.high), root)

    def test_both_bounds_are_included(self):
        made_of = with_roots(0, Fraction(1, 3), 1)
        self.assert_roots(roots(made_of, 0, 1), [0, Fraction(1, 3), 1])
        self.assert_roots(roots(made_of, Ratio(1, 3), 2), [Fraction(1, 3), 1])
        self.assert_roots(roots(made_of, -1, Ratio(1, 3)), [0, Fraction(1, 3)])
        self.assert_roots(roots(made_of, Ratio(1, 4), Ratio(1, 2)), [Fraction(1, 3)])
        self.assert_roots(roots(made_of, 2, 3), [])

    def test_each_root_once(self):
        made_of = with_roots(0, 0, Fraction(1, 2), Fraction(1, 2), Fraction(1, 2), 1, 1, 2)
        self.assert_roots(roots(made_of, 0, 1), [0, Fraction(1, 2), 1])
        self.assert_roots(roots(made_of * NO_REAL_ROOT, -9, 9), [0, Fraction(1, 2), 1, 2])

    def test_irrational_roots(self):
        found = roots(SQRT2 * polynomial(-3, 0, 1), -2, 2)
        self.assertEqual(len(found), 4)
        self.assertEqual([root.sign_of(SQRT2) for root in found], [1, 0, 0, 1])
        self.assertEqual([root.against(0) for root in found], [-1, -1, 1, 1])
        self.assertTrue(found[0] < found[1] < found[2] < found[3])

    def test_no_roots(self):
        for made_of in (NO_REAL_ROOT, polynomial(5), polynomial(-1)):
            self.assertEqual(roots(made_of, -BIG, BIG), [])

    def test_one_root_at_a_bound_only(self):
        self.assert_roots(roots(with_roots(3), 3, 4), [3])
        self.assert_roots(roots(with_roots(3), 2, 3), [3])
        self.assert_roots(roots(polynomial=with_roots(3, 3), low=2, high=3), [3])

    def test_roots_next_to_a_bound(self):
        self.assert_roots(roots(with_roots(0, TINY, 1 - TINY, 1), 0, 1), [0, TINY, 1 - TINY, 1])
        self.assert_roots(roots(with_roots(-TINY, TINY, 1 - TINY, 1 + TINY), 0, 1), [TINY, 1 - TINY])

    def test_roots_where_bounds_are_halved(self):
        places = [Fraction(1, 2), Fraction(1, 4), Fraction(3, 4), Fraction(1, 8), Fraction(7, 8), 0, 1]
        self.assert_roots(roots(with_roots(*places), 0, 1), sorted(places))

    def test_polynomials_with_many_known_roots(self):
        source = random.Random(17)
        for _ in range(30):
            places = [Fraction(source.randint(-12, 12), source.randint(1, 6)) for _ in range(source.randint(1, 8))]
            low = Fraction(source.randint(-12, 0), source.randint(1, 4))
            high = low + Fraction(source.randint(1, 12), source.randint(1, 4))
            inside = sorted({place for place in places if low <= place <= high})
            self.assert_roots(roots(with_roots(*places), ratio(low), ratio(high)), inside)

    def test_the_degree_eight_with_large_numbers(self):
        places = [Fraction(BIG, PRIME) + at * TINY for at in range(4)] + [-BIG, Fraction(-1, BIG), Fraction(BIG, 2), BIG]
        self.assert_roots(roots(with_roots(*places) * polynomial(Fraction(-PRIME, BIG)), -BIG, BIG), sorted(places))

    def test_errors(self):
        for low, high in [(0, 1)] + BAD_STRETCHES:
            with self.assertRaises(ZeroPolynomial):
                roots(ZERO, low, high)
        for low, high in BAD_STRETCHES:
            for made_of in (SQRT2, polynomial(1)):
                with self.assertRaises(BadStretch):
                    roots(made_of, low, high)


class CellsTest(unittest.TestCase):
    def assert_cells(self, polynomials, low, high, many):
        """Checks all that the document says of cells; `many` is the number of different roots."""
        found = cells(polynomials, low, high)
        self.assertIsInstance(found, list)
        self.assertEqual([cell[0] for cell in found], ["between", "at"] * many + ["between"])
        marks = []
        before = Ratio(0) + low
        for cell in found:
            self.assertIsInstance(cell, tuple)
            if cell[0] == "at":
                self.assertEqual(len(cell), 2)
                self.assertIsInstance(cell[1], Root)
                self.assertEqual(cell[1].against(before), 1)
                marks.append(cell[1])
            else:
                _, first, second = cell
                self.assertIsInstance(first, Ratio)
                self.assertIsInstance(second, Ratio)
                self.assertTrue(before < first < second < Ratio(0) + high)
                if marks:
                    self.assertEqual(marks[-1].against(first), -1)
                before = second
        for one, other in zip(marks, marks[1:]):
            self.assertTrue(one < other)
        for one in polynomials:
            self.assert_same_sign(one, found)
        return marks

    def assert_same_sign(self, one, found):
        if len(one) == 0:
            return
        marks = [cell[1] for cell in found if cell[0] == "at"]
        for cell in found:
            if cell[0] == "between":
                self.assertEqual(root_count(one, cell[1], cell[2]), 0)
                self.assertEqual(sign(one.worth(cell[1])), sign(one.worth(cell[2])))
                self.assertNotEqual(sign(one.worth(cell[1])), 0)
        inner = roots(one, found[0][1], found[-1][2])
        self.assertEqual(len([mark for mark in marks if mark.sign_of(one) == 0]), len(inner))

    def test_several_polynomials(self):
        marks = self.assert_cells([HALF, polynomial(-1, 3)], 0, 1, 2)
        self.assertEqual((marks[0].against(Ratio(1, 3)), marks[1].sign_of(HALF)), (0, 0))
        marks = self.assert_cells([polynomial(-1, 3), with_roots(Fraction(1, 4), Fraction(3, 4)), HALF], 0, 1, 4)
        self.assertEqual([mark.sign_of(HALF) for mark in marks], [-1, -1, 0, 1])

    def test_the_order_of_the_polynomials_does_not_matter(self):
        parts = [HALF, with_roots(Fraction(1, 3), Fraction(9, 10)), with_roots(Fraction(1, 10), Fraction(2, 3))]
        for order in ((0, 1, 2), (0, 2, 1), (1, 0, 2), (1, 2, 0), (2, 0, 1), (2, 1, 0)):
            marks = self.assert_cells([parts[at] for at in order], 0, 1, 5)
            self.assertEqual([mark.sign_of(parts[0]) for mark in marks], [-1, -1, -1, 0, 1])

    def test_the_zero_polynomial_among_them(self):
        self.assert_cells([ZERO], 0, 1, 0)
        self.assert_cells([ZERO, HALF, Polynomial([0, 0]), polynomial(-1, 3)], 0, 1, 2)

    def test_without_a_root(self):
        for polynomials in ([], [polynomial(3)], [NO_REAL_ROOT, polynomial(-1)], [with_roots(5)], ()):
            for low, high in ((0, 1), (-3, Ratio(-5, 2)), (ratio(TINY), ratio(2 * TINY))):
                self.assert_cells(polynomials, low, high, 0)

    def test_roots_in_common(self):
        third = Fraction(1, 3)
        self.assert_cells([with_roots(third), with_roots(third, Fraction(1, 2)), with_roots(third, third)], 0, 1, 2)
        self.assert_cells([HALF, HALF * with_roots(third), HALF * HALF, HALF], 0, 1, 2)
        self.assert_cells([SQRT2 * HALF, HALF * NO_REAL_ROOT], -1, 1, 2)

    def test_roots_at_low_and_high_are_left_out(self):
        self.assert_cells([with_roots(0, 1)], 0, 1, 0)
        self.assert_cells([with_roots(0, 0), with_roots(1), with_roots(0, Fraction(1, 2), 1)], 0, 1, 1)
        self.assert_cells([with_roots(0), with_roots(1), with_roots(TINY)], 0, 1, 1)
        self.assert_cells([with_roots(0, TINY, 1 - TINY, 1)], 0, 1, 2)

    def test_double_roots(self):
        self.assert_cells([with_roots(Fraction(1, 2), Fraction(1, 2)), HALF * HALF * HALF], 0, 1, 2)

    def test_other_bounds(self):
        made = [with_roots(-5, -4, -3, 0, 3, 4, 5)]
        self.assert_cells(made, -4, 4, 3)
        self.assert_cells(made, Ratio(-9, 2), Ratio(7, 2), 4)
        self.assert_cells(made, -BIG, BIG, 7)

    def test_close_roots(self):
        below = Fraction(isqrt(5 * 10 ** 77), 10 ** 39)
        self.assert_cells([HALF, with_roots(below), with_roots(below + TINY)], 0, 1, 3)
        nearly = polynomial(-10 ** 39 - 1, 0, 2 * 10 ** 39)
        self.assert_cells([nearly, HALF], 0, 1, 2)
        self.assert_cells([with_roots(*[Fraction(1, 2) + at * TINY for at in range(8)])], 0, 1, 8)

    def test_many_known_roots(self):
        source = random.Random(18)
        for _ in range(15):
            places, made = set(), []
            for _ in range(source.randint(1, 4)):
                few = [Fraction(source.randint(-2, 8), source.randint(2, 7)) for _ in range(source.randint(0, 4))]
                places.update(place for place in few if 0 < place < 1)
                made.append(with_roots(*few))
            marks = self.assert_cells(made, 0, 1, len(places))
            self.assertEqual([mark.against(ratio(place)) for mark, place in zip(marks, sorted(places))], [0] * len(places))

    def test_lists_are_left_alone_and_new(self):
        made = [HALF, ZERO, polynomial(-1, 3)]
        kept = list(made)
        first = cells(made, 0, 1)
        first.pop()
        self.assertEqual(made, kept)
        self.assertEqual(len(cells(polynomials=tuple(made), low=0, high=1)), 5)

    def test_bad_stretch(self):
        for low, high in BAD_STRETCHES:
            for made in ([], [HALF], [ZERO]):
                with self.assertRaises(BadStretch):
                    cells(made, low, high)


class NowhereBelowTest(unittest.TestCase):
    def test_single_roots(self):
        below = [with_roots(Fraction(1, 2)), -with_roots(Fraction(1, 2)), with_roots(TINY), with_roots(1 - TINY), HALF]
        below += [-HALF, with_roots(0, 1), with_roots(0, Fraction(1, 2)), -with_roots(Fraction(1, 2), 1), with_roots(1)]
        below += [-with_roots(0), -with_roots(Fraction(1, 3), Fraction(2, 3)), with_roots(Fraction(1, 3), Fraction(2, 3))]
        for made in below:
            self.assertIs(nowhere_below(made), False)
        fine = [with_roots(0), -with_roots(1), -with_roots(0, 1), with_roots(-TINY), -with_roots(1 + TINY), with_roots(2, 3)]
        for made in fine:
            self.assertIs(nowhere_below(made), True)

    def test_double_roots(self):
        squares = [(Fraction(1, 2),) * 2, (0, 0), (1, 1), (TINY, TINY), (Fraction(1, 3),) * 4, (0, 0, 1, 1), (0, 0, 0)]
        for places in squares:
            self.assertIs(nowhere_below(with_roots(*places)), True)
        for places in squares[:-1]:
            self.assertIs(nowhere_below(-with_roots(*places)), False)
        self.assertIs(nowhere_below(HALF * HALF), True)
        self.assertIs(nowhere_below(HALF * HALF * HALF), False)
        self.assertIs(nowhere_below(HALF * HALF * with_roots(0)), True)
        self.assertIs(nowhere_below(HALF * HALF * with_roots(1)), False)

    def test_values_just_below(self):
        self.assertIs(nowhere_below(with_roots(Fraction(1, 2), Fraction(1, 2)) + polynomial(TINY)), True)
        self.assertIs(nowhere_below(with_roots(Fraction(1, 2), Fraction(1, 2)) - polynomial(TINY)), False)
        self.assertIs(nowhere_below(with_roots(Fraction(1, 3), Fraction(1, 3) + TINY)), False)

    def test_constants(self):
        for value, wanted in ((0, True), (1, True), (TINY, True), (-1, False), (-TINY, False)):
            self.assertIs(nowhere_below(polynomial(value)), wanted)
        self.assertIs(nowhere_below(polynomial=ZERO), True)

    def test_it_does_not_matter_what_happens_elsewhere(self):
        self.assertIs(nowhere_below(with_roots(-1, 2) * polynomial(-1)), True)
        self.assertIs(nowhere_below(with_roots(-1, 2)), False)

    def test_the_degree_eight_with_large_numbers(self):
        places = [Fraction(at * PRIME, BIG * 10) for at in (1, 2, 3, 4)]
        self.assertIs(nowhere_below(with_roots(*places, *places)), True)
        self.assertIs(nowhere_below(with_roots(*places, *places) * polynomial(-BIG)), False)
        self.assertIs(nowhere_below(with_roots(*places, *places[:3], places[3] + TINY)), False)


class AngleTest(unittest.TestCase):
    def test_angle(self):
        numbers = [(Ratio(1, 2), Fraction(9, 25)), (0, 1), (1, 0), (-1, 0), (Ratio(1, 3), Fraction(16, 25)), (2, Fraction(9, 25))]
        numbers += [(Ratio(-1, 2), Fraction(9, 25)), (3, Fraction(16, 25)), (Ratio(2, 3), Fraction(25, 169))]
        for number, wanted in numbers:
            self.assertIsInstance(angle(number), Ratio)
            self.assertEqual(fraction(angle(number)), wanted)
        self.assertEqual(angle(m=Ratio(1, 2)).text(), "9/25")

    def test_angle_of_large_numbers(self):
        for m in (Fraction(BIG), Fraction(1, BIG), Fraction(-PRIME, BIG), Fraction(BIG, PRIME)):
            self.assertEqual(fraction(angle(ratio(m))), ((1 - m * m) / (1 + m * m)) ** 2)

    def test_angle_in(self):
        places = [0, TINY, Fraction(1, 10), Fraction(9, 25), Fraction(1, 2), Fraction(9, 10), 1 - TINY, 1]
        places += [place + TINY for place in places[:-1]]
        for low in places:
            for high in places:
                if low < high:
                    m = angle_in(ratio(low), ratio(high))
                    self.assertIsInstance(m, Ratio)
                    self.assertTrue(0 < fraction(m) < 1)
                    self.assertTrue(low < fraction(angle(m)) < high)

    def test_angle_in_with_integers_and_names(self):
        self.assertTrue(Ratio(0) < angle_in(0, 1))
        self.assertTrue(Ratio(1, 2) < angle(angle_in(low=Ratio(1, 2), high=1)))

    def test_bounds_very_near_one_another(self):
        for place in (Fraction(0), Fraction(1, 3), Fraction(9, 25), 1 - Fraction(1, 10 ** 80)):
            for width in (Fraction(1, 10 ** 40), Fraction(1, 10 ** 80)):
                turn = fraction(angle(angle_in(ratio(place), ratio(min(place + width, 1)))))
                self.assertTrue(place < turn < place + width)
                if place != 0:
                    turn = fraction(angle(angle_in(ratio(place - width), ratio(place))))
                    self.assertTrue(place - width < turn < place)

    def test_wrong_bounds(self):
        wrong = BAD_STRETCHES + [(-1, 1), (ratio(-TINY), Ratio(1, 2)), (0, 2), (Ratio(1, 2), ratio(1 + TINY)), (0, 0)]
        wrong += [(-2, -1), (2, 3), (-1, 2), (1, 2), (-1, 0), (1, Ratio(1, 2)), (2, 1), (Ratio(3, 4), Ratio(1, 4)), (3, 2)]
        for low, high in wrong:
            with self.subTest(low=low, high=high), self.assertRaises(BadStretch):
                angle_in(low, high)


if __name__ == "__main__":
    unittest.main()

"""Points 5, 7, 15 and 16: counting roots, and Roots."""

import random
import unittest
from fractions import Fraction
from math import isqrt

from filterorders.errors import BadRoot, BadStretch, ZeroPolynomial
from filterorders.polynomials import Polynomial
from filterorders.ratios import Ratio, as_ratio
from filterorders.roots import Root, root_count
from tests.tools import BIG, PRIME, fraction, polynomial, ratio, with_roots

ZERO = Polynomial([])
NO_REAL_ROOT = polynomial(1, 0, 1)
SQRT2 = polynomial(-2, 0, 1)
TINY = Fraction(1, 10 ** 39)


def root_of_two(low=1, high=2):
    return Root(SQRT2, low, high)


def exact(place):
    return Root(with_roots(place), ratio(place), ratio(place))


class RootCountTest(unittest.TestCase):
    def count(self, counted, low, high):
        found = root_count(counted, ratio(low), ratio(high))
        self.assertIs(type(found), int)
        return found

    def test_low_is_left_out_and_high_counts(self):
        counted = with_roots(0, 1, 2)
        self.assertEqual(self.count(counted, 0, 2), 2)
        self.assertEqual(self.count(counted, -1, 2), 3)
        self.assertEqual(self.count(counted, -1, 0), 1)
        self.assertEqual(self.count(counted, 0, 1), 1)
        self.assertEqual(self.count(counted, 2, 3), 0)
        self.assertEqual(self.count(counted, Fraction(1, 2), Fraction(3, 2)), 1)
        self.assertEqual(self.count(counted, Fraction(1, 4), Fraction(1, 2)), 0)

    def test_roots_that_occur_more_than_once(self):
        counted = with_roots(0, 0, 1, 1, 1, 2, 2)
        self.assertEqual(self.count(counted, -1, 3), 3)
        self.assertEqual(self.count(counted, 0, 2), 2)
        self.assertEqual(self.count(counted, -1, 0), 1)
        self.assertEqual(self.count(counted, 0, 1), 1)
        self.assertEqual(self.count(counted, 1, Fraction(3, 2)), 0)

    def test_all_bounds_for_all_multiplicities(self):
        for powers in ((1, 1, 1), (2, 1, 3), (1, 2, 2), (4, 1, 1), (2, 2, 2)):
            places = [-1] * powers[0] + [Fraction(1, 3)] * powers[1] + [2] * powers[2]
            for factor in (polynomial(1), polynomial(-5), NO_REAL_ROOT, NO_REAL_ROOT * NO_REAL_ROOT):
                counted = with_roots(*places) * factor
                stops = [-2, -1, 0, Fraction(1, 3), 1, 2, 3]
                for low in stops:
                    for high in stops:
                        if low < high:
                            wanted = len({place for place in places if low < place <= high})
                            self.assertEqual(self.count(counted, low, high), wanted)

    def test_roots_that_are_no_ratios(self):
        self.assertEqual(self.count(SQRT2, -2, 2), 2)
        self.assertEqual(self.count(SQRT2, 0, 2), 1)
        self.assertEqual(self.count(SQRT2 * SQRT2, 0, 2), 1)
        self.assertEqual(self.count(SQRT2 * polynomial(-3, 0, 1), 1, Fraction(3, 2)), 1)
        self.assertEqual(self.count(SQRT2 * polynomial(-3, 0, 1), 1, 2), 2)
        low, high = Fraction(isqrt(2 * 10 ** 78), 10 ** 39), Fraction(isqrt(2 * 10 ** 78) + 1, 10 ** 39)
        self.assertEqual((self.count(SQRT2, low, high), self.count(SQRT2, 0, low), self.count(SQRT2, high, 2)), (1, 0, 0))

    def test_polynomials_without_real_roots(self):
        for counted in (NO_REAL_ROOT, polynomial(3), polynomial(-1), NO_REAL_ROOT * polynomial(-2)):
            self.assertEqual(self.count(counted, -BIG, BIG), 0)

    def test_a_line(self):
        counted = polynomial(-1, 3)
        self.assertEqual((self.count(counted, 0, 1), self.count(-counted, 0, 1), self.count(counted, 1, 2)), (1, 1, 0))

    def test_integers_and_names_of_arguments(self):
        self.assertEqual(root_count(polynomial=SQRT2, low=0, high=2), 1)
        self.assertEqual(root_count(SQRT2, -2, 0), 1)

    def test_the_degree_eight_with_large_numbers(self):
        places = [Fraction(at * BIG, PRIME + at) for at in range(-4, 0)] + [Fraction(BIG) - at for at in range(4)]
        counted = with_roots(*places) * polynomial(Fraction(-BIG, PRIME))
        for low, high in ((-10 ** 40, BIG), (-BIG, BIG - 3), (places[0], BIG - 4), (places[1], places[3]), (0, BIG - 1)):
            self.assertEqual(self.count(counted, low, high), len([place for place in places if low < place <= high]))

    def test_zero_polynomial_comes_before_bad_stretch(self):
        for low, high in ((0, 1), (1, 1), (1, 0)):
            with self.assertRaises(ZeroPolynomial):
                root_count(ZERO, low, high)
            with self.assertRaises(ZeroPolynomial):
                root_count(Polynomial([0, 0]), low, high)

    def test_bad_stretch(self):
        for low, high in ((1, 1), (1, 0), (Ratio(1, 2), Ratio(2, 4)), (Ratio(1, 2), Ratio(1, 3)), (0, -1)):
            for counted in (SQRT2, Polynomial([3])):
                with self.assertRaises(BadStretch):
                    root_count(counted, low, high)


class MakingRootsTest(unittest.TestCase):
    def assert_keeps_its_word(self, root):
        """The root is the only one of its polynomial from its one bound to the other."""
        self.assertIsInstance(root.polynomial, Polynomial)
        self.assertIsInstance(root.low, Ratio)
        self.assertIsInstance(root.high, Ratio)
        self.assertTrue(root.low <= root.high)
        self.assertEqual(root.sign_of(root.polynomial), 0)
        self.assertGreaterEqual(root.against(root.low), 0)
        self.assertLessEqual(root.against(root.high), 0)
        self.assertEqual(Root(root.polynomial, root.low, root.high), root)

    def test_the_properties(self):
        made = [root_of_two(), root_of_two(-5, 0), Root(with_roots(1, 2), 0, 1), Root(with_roots(1, 1), 0, 3), exact(5)]
        made += [Root(with_roots(Fraction(BIG, PRIME), 0), 1, BIG), Root(SQRT2 * SQRT2, 1, 2), Root(with_roots(1, 2), 1, 1)]
        for root in made:
            self.assert_keeps_its_word(root)
            self.assert_keeps_its_word(root.narrowed(Ratio(1, 1000)))

    def test_names_of_arguments(self):
        self.assertEqual(Root(polynomial=SQRT2, low=1, high=2), root_of_two())

    def test_equal_bounds(self):
        root = Root(with_roots(1, Fraction(1, 3)), Ratio(1, 3), Ratio(1, 3))
        self.assertEqual((root.low, root.high, root.against(Ratio(1, 3))), (Ratio(1, 3), Ratio(1, 3), 0))
        for place in (0, Ratio(1, 2)):
            with self.assertRaises(BadRoot):
                Root(with_roots(1, Fraction(1, 3)), place, place)

    def test_a_bound_that_is_the_root(self):
        self.assertEqual(Root(with_roots(1, 3), 1, 2).against(1), 0)
        self.assertEqual(Root(with_roots(1, 3), 0, 1).against(1), 0)
        self.assertEqual(Root(with_roots(1, 1, 3), 1, 2), Root(with_roots(0, 1, 1), Ratio(1, 2), 1))

    def test_a_root_that_the_polynomial_has_twice(self):
        for places in ((1, 1), (1, 1, 1), (1, 1, 5), (1, 1, 5, 5)):
            root = Root(with_roots(*places), 0, 2)
            self.assertEqual((root.against(1), root.against(0), root.against(2)), (0, 1, -1))
            self.assertEqual((root.sign_of(polynomial(-1, 1)), root.sign_of(polynomial(-2, 1))), (0, -1))
        self.assertEqual(Root(SQRT2 * SQRT2, 1, 2), root_of_two())

    def test_no_root_or_several_roots(self):
        bad = [(SQRT2, -2, 2), (SQRT2, 0, 1), (SQRT2, 2, 3), (NO_REAL_ROOT, -9, 9), (polynomial(4), -1, 1)]
        bad += [(with_roots(0, 1), 0, 1), (with_roots(0, 1, 1), 0, 1), (with_roots(0, 1, 2), Ratio(1, 2), 2)]
        bad += [(polynomial(1), 0, 0), (SQRT2, 2, 1), (with_roots(1), 2, 0), (with_roots(1), 1, 0), (with_roots(1), 2, 1)]
        for made_of, low, high in bad:
            with self.subTest(low=low, high=high), self.assertRaises(BadRoot):
                Root(made_of, low, high)

    def test_the_zero_polynomial_comes_first(self):
        for low, high in ((0, 1), (1, 1), (1, 0)):
            with self.assertRaises(ZeroPolynomial):
                Root(ZERO, low, high)

    def test_objects_do_not_change(self):
        root = root_of_two()
        for name in ("polynomial", "low", "high"):
            with self.assertRaises(AttributeError):
                setattr(root, name, 0)
        low, high, before = root.low, root.high, root.polynomial.terms()
        root.narrowed(Ratio(1, 1000))
        root.sign_of(with_roots(Fraction(7, 5)))
        root.against(Ratio(7, 5))
        self.assertEqual((root.low, root.high, root.polynomial.terms()), (low, high, before))


class NarrowedTest(unittest.TestCase):
    def test_the_bounds_differ_by_at_most_the_width(self):
        made = [root_of_two(), root_of_two(-10, 0), exact(3), Root(with_roots(Fraction(1, 3)), 0, 1), Root(with_roots(1), 0, 2)]
        for root in made:
            for width in (5, 1, Ratio(2, 3), Ratio(1, 100), Ratio(1, BIG), Ratio(PRIME, BIG)):
                found = root.narrowed(width)
                self.assertIsInstance(found, Root)
                self.assertTrue(found.high - found.low <= width)
                self.assertTrue(found == root)
                self.assertEqual((found.against(found.low) >= 0, found.against(found.high) <= 0), (True, True))

    def test_it_stays_the_same_of_several_roots(self):
        several = with_roots(0, Fraction(1, 3), Fraction(1, 2), 1) * SQRT2
        root = Root(several, Ratio(1, 4), Ratio(2, 5)).narrowed(width=Ratio(1, 10 ** 30))
        self.assertEqual(root.against(Ratio(1, 3)), 0)
        root = Root(several, Ratio(5, 4), 9).narrowed(Ratio(1, 10 ** 30))
        self.assertEqual(root, root_of_two())

    def test_from_wide_bounds(self):
        root = Root(polynomial(-2, 0, 0, 1), -BIG, BIG).narrowed(Ratio(1, BIG))
        low, high = fraction(root.low), fraction(root.high)
        self.assertTrue(low ** 3 < 2 < high ** 3)
        self.assertLessEqual(high - low, Fraction(1, BIG))


class SignOfTest(unittest.TestCase):
    def test_zero_at_the_root(self):
        root = root_of_two()
        for other in (SQRT2, -SQRT2, SQRT2 * SQRT2, SQRT2 * with_roots(1, 7), polynomial(4, 0, -4, 0, 1), ZERO):
            self.assertEqual(root.sign_of(other), 0)
        self.assertEqual(root.sign_of(polynomial=polynomial(0, -2, 0, 1)), 0)

    def test_constants(self):
        for root in (root_of_two(), exact(3)):
            self.assertEqual([root.sign_of(polynomial(value)) for value in (5, Fraction(-1, 9), 0)], [1, -1, 0])

    def test_other_roots_in_common_do_not_count(self):
        first = Root(with_roots(1, 2), 0, Ratio(3, 2))
        self.assertEqual((first.sign_of(with_roots(2, 3)), first.sign_of(with_roots(2)), first.sign_of(with_roots(1, 3))), (1, -1, 0))
        self.assertEqual(root_of_two().sign_of(SQRT2 * polynomial(0, 1)), 0)

    def test_near_roots(self):
        below = Fraction(isqrt(2 * 10 ** 78), 10 ** 39)
        root = root_of_two(-1, 10 ** 20)
        self.assertEqual(root.sign_of(with_roots(below)), 1)
        self.assertEqual(root.sign_of(with_roots(below + TINY)), -1)
        self.assertEqual(root.sign_of(with_roots(below, below + TINY)), -1)
        self.assertEqual(root.sign_of(with_roots(below, below, below + TINY)), -1)
        self.assertEqual(root.sign_of(with_roots(below, below)), 1)
        near = polynomial(-2 * 10 ** 39 - 1, 0, 10 ** 39)
        self.assertEqual((root.sign_of(near), Root(near, 1, 2).sign_of(SQRT2)), (-1, 1))

    def test_at_a_root_that_is_known_exactly(self):
        root = exact(Fraction(1, 3))
        self.assertEqual([root.sign_of(with_roots(place)) for place in (0, Fraction(1, 3), 1)], [1, 0, -1])

    def test_polynomials_of_many_degrees(self):
        source = random.Random(16)
        places = [Fraction(source.randint(-20, 20), source.randint(1, 9)) for _ in range(6)]
        made_of = with_roots(*places) * SQRT2
        for place in places:
            gap = min([abs(place - other) for other in places if other != place] + [abs(place * place - 2)]) / 8
            root = Root(made_of, ratio(place - gap), ratio(place + gap * 2))
            for degree in range(12):
                values = [Fraction(source.randint(-9, 9), source.randint(1, 9)) for _ in range(degree + 1)]
                worth = sum(value * place ** at for at, value in enumerate(values))
                self.assertEqual(root.sign_of(polynomial(*values)), (worth > 0) - (worth < 0))

    def test_large_numbers(self):
        place = Fraction(BIG, PRIME)
        made_of = with_roots(place, *[place + at * TINY for at in range(1, 8)])
        root = Root(made_of, 0, ratio(place + TINY / 2))
        self.assertEqual(root.sign_of(with_roots(place - TINY) * polynomial(0, 0, 0, 0, 0, 0, 0, BIG)), 1)
        self.assertEqual(root.sign_of(made_of), 0)
        self.assertEqual(root.sign_of(with_roots(*[place + at * TINY for at in range(1, 8)])), -1)


class AgainstTest(unittest.TestCase):
    def test_irrational_roots(self):
        root = root_of_two(-1, 3)
        numbers = [(-1, 1), (0, 1), (Ratio(7, 5), 1), (Ratio(3, 2), -1), (3, -1), (-9, 1), (9, -1), (1, 1), (2, -1)]
        below = isqrt(2 * 10 ** 78)
        numbers += [(Ratio(below, 10 ** 39), 1), (Ratio(below + 1, 10 ** 39), -1)]
        for number, wanted in numbers:
            self.assertEqual(root.against(number), wanted)
        self.assertEqual(root.against(number=Ratio(7, 5)), 1)

    def test_the_lower_root(self):
        root = root_of_two(-3, 1)
        wanted = [(-3, 1), (-2, 1), (Ratio(-3, 2), 1), (Ratio(-7, 5), -1), (0, -1), (1, -1), (5, -1), (-7, 1)]
        self.assertEqual([(number, root.against(number)) for number, _ in wanted], wanted)

    def test_rational_roots(self):
        for root in (exact(Fraction(1, 3)), Root(with_roots(Fraction(1, 3), 2), 0, 1), Root(with_roots(Fraction(1, 3)), -9, 9)):
            for number, wanted in ((0, 1), (Ratio(1, 3), 0), (1, -1), (Ratio(1, 3) + ratio(TINY), -1), (Ratio(1, 3) - ratio(TINY), 1)):
                self.assertEqual(root.against(number), wanted)

    def test_numbers_that_are_other_roots(self):
        root = Root(with_roots(0, 1, 2), Ratio(1, 2), Ratio(3, 2))
        self.assertEqual([root.against(number) for number in (0, 1, 2)], [1, 0, -1])


class ComparingTest(unittest.TestCase):
    def assert_ascending(self, made):
        for at, one in enumerate(made):
            for far, other in enumerate(made):
                self.assertIs(one < other, at < far)
                self.assertIs(one == other, at == far)
                self.assertIs(one != other, at != far)

    def test_the_same_number_from_different_polynomials(self):
        same = [root_of_two(), root_of_two(0, 9), Root(SQRT2 * SQRT2, 1, 2), Root(SQRT2 * with_roots(0, 3), 1, 2)]
        same += [Root(polynomial(-4, 0, 0, 0, 1), 0, 5), Root(-SQRT2, Ratio(7, 5), Ratio(3, 2)), Root(SQRT2 * NO_REAL_ROOT, 0, 2)]
        for one in same:
            for other in same:
                self.assertIs(one == other, True)
                self.assertIs(one != other, False)
                self.assertIs(one < other, False)

    def test_the_same_ratio(self):
        third = Fraction(1, 3)
        same = [exact(third), Root(with_roots(third, 1), 0, Ratio(1, 2)), Root(with_roots(third, third), -7, 7)]
        same += [Root(with_roots(third, 0), Ratio(1, 3), 9), Root(with_roots(third, 5), -1, Ratio(1, 3))]
        for one in same:
            for other in same:
                self.assertIs(one == other, True)
                self.assertIs(one < other, False)

    def test_different_numbers(self):
        made = [root_of_two(-9, 0), exact(-1), exact(0), exact(1), Root(polynomial(-2, 0, 0, 1), 0, 9), exact(Fraction(7, 5))]
        made += [root_of_two(-1, 9), Root(polynomial(-3, 0, 1), -1, 9), exact(2), Root(polynomial(1, 0, -10, 0, 1), 3, 4)]
        self.assert_ascending(made)

    def test_overlapping_bounds(self):
        self.assert_ascending([Root(with_roots(at), -9, 9) for at in range(-3, 4)])
        self.assert_ascending([Root(polynomial(-at, 0, 0, 1), -9, 9) for at in range(-3, 4)])

    def test_bounds_that_touch(self):
        self.assert_ascending([Root(SQRT2, 1, Ratio(3, 2)), exact(Fraction(3, 2)), Root(polynomial(-3, 0, 1), Ratio(3, 2), 2)])

    def test_close_roots(self):
        below = Fraction(isqrt(2 * 10 ** 78), 10 ** 39)
        nearly = polynomial(-2 * 10 ** 39 - 1, 0, 10 ** 39)
        self.assert_ascending([exact(below), root_of_two(0, 9), exact(below + TINY)])
        self.assert_ascending([Root(with_roots(below), 0, 9), root_of_two(), Root(nearly, 0, 9)])
        product = SQRT2 * nearly
        middle = ratio(below + TINY)
        self.assert_ascending([Root(product, 0, middle), Root(product, middle, 9)])
        self.assertTrue(Root(product, 0, middle) == root_of_two())

    def test_sums_of_square_roots(self):
        # The root is the square root of 2 plus that of 3, and its cube minus
        # 9 times itself is twice the square root of 2.
        sums = polynomial(1, 0, -10, 0, 1)
        one, other = Root(sums, 3, 4), Root(sums * SQRT2, 2, 9)
        self.assertTrue(one == other)
        twice = polynomial(0, -9, 0, 1)
        self.assertEqual(one.sign_of(twice * twice - polynomial(8)), 0)
        self.assertEqual(other.sign_of(twice - polynomial(Fraction(14, 5))), 1)
        self.assertEqual(other.sign_of(twice - polynomial(3)), -1)

    def test_objects_of_other_classes_are_not_equal(self):
        root = exact(1)
        for other in (1, Ratio(1), as_ratio(1), True, "1", None, [1], with_roots(1), (1, 1)):
            self.assertIs(root == other, False)
            self.assertIs(other == root, False)
            self.assertIs(root != other, True)

    def test_large_numbers(self):
        places = [Fraction(BIG - at, PRIME) for at in range(8)][::-1]
        made_of = with_roots(*places)
        half = Fraction(1, 2 * PRIME)
        made = [Root(made_of, ratio(place - half), ratio(place + half)) for place in places]
        self.assert_ascending(made)
        for root, place in zip(made, places):
            self.assertTrue(root == exact(place))


if __name__ == "__main__":
    unittest.main()

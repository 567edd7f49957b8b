"""Points 7, 13 and 14: polynomials."""

import random
import unittest
from fractions import Fraction

from filterorders.errors import BadNumber, ByZero, ZeroPolynomial
from filterorders.polynomials import Polynomial, common, single
from filterorders.ratios import Ratio
from tests.tools import BIG, NOT_NUMBERS, PRIME, fraction, fractions_of, polynomial, ratio, with_roots

ZERO = Polynomial([])
SAMPLES = [[], [1], [-2], [Fraction(1, 3)], [0, 1], [3, -2], [1, 0, 1], [0, 0, Fraction(-5, 7)], [-1, 3, 0, 4]]
SAMPLES += [[Fraction(1, 2), Fraction(-2, 3), 5, 0, Fraction(1, 9)], [0, 0, 0, 0, 0, 0, 0, 0, 2]]


def trimmed(values):
    values = [Fraction(value) for value in values]
    while values and values[-1] == 0:
        values.pop()
    return values


def added(one, other, factor=1):
    many = max(len(one), len(other))
    one = [Fraction(value) for value in one] + [Fraction(0)] * (many - len(one))
    other = [Fraction(value) for value in other] + [Fraction(0)] * (many - len(other))
    return trimmed([left + factor * right for left, right in zip(one, other)])


def multiplied(one, other):
    found = [Fraction(0)] * (len(one) + len(other))
    for start, left in enumerate(one):
        for at, right in enumerate(other):
            found[start + at] += Fraction(left) * right
    return trimmed(found)


def sampled():
    source = random.Random(13)
    found = [list(values) for values in SAMPLES]
    for degree in range(9):
        found.append([Fraction(source.randint(-9, 9), source.randint(1, 9)) for _ in range(degree)] + [Fraction(7, 2)])
    bottom = PRIME
    found.append([Fraction(source.randint(-BIG, BIG), bottom + at) for at in range(8)] + [Fraction(-BIG, PRIME)])
    return found


class TermsTest(unittest.TestCase):
    def test_terms_are_ratios_without_zeros_at_the_end(self):
        for values in ([], [0], [0, 0, 0], [1, 0, 0], [0, 0, 3], [0, Fraction(1, 2), 0, 5, 0], [Fraction(-3, 4)]):
            made = polynomial(*values)
            self.assertEqual(fractions_of(made), trimmed(values))
            self.assertEqual(len(made), len(trimmed(values)))
            for term in made.terms():
                self.assertIsInstance(term, Ratio)
        self.assertIsInstance(Polynomial([1, 2]).terms(), list)

    def test_integers_become_ratios(self):
        for term in Polynomial([0, 3, -2]).terms():
            self.assertIsInstance(term, Ratio)

    def test_zeros_as_ratios_are_dropped_too(self):
        self.assertEqual(len(Polynomial([1, Ratio(0, 5), 0])), 1)
        self.assertEqual(Polynomial([Ratio(0)]).terms(), [])

    def test_len_is_the_degree_plus_one(self):
        self.assertEqual([len(Polynomial([0] * at + [1])) for at in range(9)], list(range(1, 10)))
        self.assertEqual(len(ZERO), 0)

    def test_lists_are_copied(self):
        numbers = [1, 2, 3]
        made = Polynomial(numbers)
        numbers[0] = 9
        numbers.append(4)
        self.assertEqual(made.terms(), [1, 2, 3])
        told = made.terms()
        told[1] = Ratio(8)
        told.pop()
        self.assertEqual(made.terms(), [1, 2, 3])
        self.assertIsNot(made.terms(), made.terms())
        self.assertEqual(numbers, [9, 2, 3, 4])

    def test_tuples_are_taken_as_lists(self):
        self.assertEqual(Polynomial((1, Ratio(1, 2), 0)), Polynomial([1, Ratio(1, 2)]))
        self.assertEqual(Polynomial(()), ZERO)
        self.assertEqual(Polynomial(numbers=(3,)), Polynomial([3]))

    def test_the_first_item_that_is_no_number(self):
        for given in NOT_NUMBERS:
            for numbers in ([given], [1, given, "later"], [1, 2, Ratio(1, 2), given, None], (0, given, True)):
                with self.subTest(given=given), self.assertRaises(BadNumber) as caught:
                    Polynomial(numbers)
                self.assertIs(caught.exception.given, given)


class OperationsTest(unittest.TestCase):
    def test_equality(self):
        self.assertTrue(Polynomial([1, 2]) == Polynomial([Ratio(2, 2), 2, 0]))
        self.assertTrue(Polynomial([0]) == ZERO)
        for other in ([1], [1, 3], [2, 2], [1, 2, 1], []):
            self.assertFalse(Polynomial([1, 2]) == Polynomial(other))
            self.assertTrue(Polynomial([1, 2]) != Polynomial(other))

    def test_objects_of_other_classes_are_not_equal(self):
        for other in ([1], (1,), 1, Ratio(1), None, "1", True):
            self.assertIs(Polynomial([1]) == other, False)
            self.assertIs(other == Polynomial([1]), False)
        for other in ([], (), 0, Ratio(0), None, "0", False):
            self.assertIs(ZERO == other, False)

    def test_sums_differences_products(self):
        samples = sampled()
        for one in samples:
            for other in samples:
                left, right = polynomial(*one), polynomial(*other)
                self.assertEqual(fractions_of(left + right), added(one, other))
                self.assertEqual(fractions_of(left - right), added(one, other, -1))
                self.assertEqual(fractions_of(left * right), multiplied(one, other))
                self.assertEqual(left == right, trimmed(one) == trimmed(other))

    def test_opposite(self):
        for values in sampled():
            self.assertEqual(fractions_of(-polynomial(*values)), trimmed([-value for value in values]))

    def test_results_are_polynomials_of_ratios(self):
        one, other = Polynomial([1, 2]), Polynomial([0, Ratio(1, 2)])
        for made in (one + other, one - other, one * other, -one, one.slope(), *one.parted(other), common(one, other)):
            self.assertIsInstance(made, Polynomial)
            for term in made.terms():
                self.assertIsInstance(term, Ratio)

    def test_the_zero_polynomial(self):
        one = Polynomial([1, Ratio(1, 2)])
        self.assertEqual((one + ZERO, ZERO + one, one - ZERO, ZERO - one), (one, one, one, -one))
        self.assertEqual((one * ZERO, ZERO * one, -ZERO, ZERO + ZERO, ZERO * ZERO, one - one), (ZERO,) * 6)
        self.assertEqual((ZERO.worth(5), ZERO.slope(), ZERO.parted(one)), (0, ZERO, (ZERO, ZERO)))
        self.assertIsInstance(ZERO.worth(5), Ratio)

    def test_operations_leave_their_arguments_alone(self):
        one, other = Polynomial([2, -3, 1]), Polynomial([-1, Ratio(1, 2)])
        for made in (one + other, one - other, one * other, -one, one.parted(other), common(one, other), single(one)):
            del made
        self.assertEqual((one.terms(), other.terms()), ([2, -3, 1], [-1, Ratio(1, 2)]))

    def test_worth(self):
        for values in sampled():
            for place in (Fraction(0), Fraction(1), Fraction(-2), Fraction(3, 7), Fraction(-BIG, PRIME)):
                wanted = sum((value * place ** at for at, value in enumerate(values)), Fraction(0))
                self.assertEqual(fraction(polynomial(*values).worth(ratio(place))), wanted)
        self.assertEqual(Polynomial([1, 2, 3]).worth(number=2), 17)
        self.assertIsInstance(Polynomial([4]).worth(2), Ratio)

    def test_slope(self):
        for values in sampled():
            wanted = trimmed([at * value for at, value in enumerate(values)][1:])
            self.assertEqual(fractions_of(polynomial(*values).slope()), wanted)
        self.assertEqual(Polynomial([5]).slope(), ZERO)


class PartedTest(unittest.TestCase):
    def test_quotient_times_divisor_plus_rest(self):
        samples = sampled()
        for one in samples:
            for other in samples:
                left, right = polynomial(*one), polynomial(*other)
                if len(right) == 0:
                    continue
                parts = left.parted(right)
                self.assertIsInstance(parts, tuple)
                quotient, rest = parts
                self.assertEqual(quotient * right + rest, left)
                self.assertLess(len(rest), len(right))

    def test_division_without_a_rest(self):
        one, other = polynomial(2, -3, 1), polynomial(-1, Fraction(1, 2))
        self.assertEqual(one.parted(other), (polynomial(-2, 2), ZERO))
        self.assertEqual((one * other).parted(other=one), (other, ZERO))

    def test_the_divisor_is_longer(self):
        short, long = polynomial(1, 2), polynomial(1, 2, 3)
        self.assertEqual(short.parted(long), (ZERO, short))

    def test_a_rest_that_is_much_shorter_than_the_divisor(self):
        divisor = polynomial(1, 0, 0, 2)
        self.assertEqual((divisor * polynomial(0, 0, 1) + polynomial(5)).parted(divisor), (polynomial(0, 0, 1), polynomial(5)))

    def test_the_divisor_is_a_constant(self):
        self.assertEqual(polynomial(1, 2).parted(polynomial(-4)), (polynomial(Fraction(-1, 4), Fraction(-1, 2)), ZERO))

    def test_the_zero_polynomial_as_divisor(self):
        for left in (ZERO, Polynomial([3]), Polynomial([1, 2, 3])):
            for zero in (ZERO, Polynomial([0, 0])):
                with self.assertRaises(ByZero):
                    left.parted(zero)


class CommonTest(unittest.TestCase):
    def test_factors_in_common(self):
        shared = with_roots(1, Fraction(2, 3))
        one = shared * with_roots(5) * Polynomial([7])
        other = shared * with_roots(-5, -6) * Polynomial([Ratio(-1, 3)])
        self.assertEqual(common(one, other), shared)
        self.assertEqual(common(one=other, other=one), shared)

    def test_powers_in_common(self):
        one, other = with_roots(2, 2, 2, 3), with_roots(2, 2, 3, 3, 4)
        self.assertEqual(common(one, other), with_roots(2, 2, 3))

    def test_factors_without_real_roots(self):
        shared = polynomial(1, 0, 1)
        self.assertEqual(common(shared * with_roots(1), shared * polynomial(2, 0, 1)), shared)
        self.assertEqual(common(polynomial(1, 0, 1), polynomial(2, 0, 1)), polynomial(1))

    def test_constants(self):
        for one in (Polynomial([5]), Polynomial([Ratio(-1, 2)])):
            for other in (Polynomial([-7]), Polynomial([1, 2]), ZERO):
                self.assertEqual(common(one, other), Polynomial([1]))
                self.assertEqual(common(other, one), Polynomial([1]))

    def test_zero_polynomials(self):
        one = polynomial(4, 0, -2)
        self.assertEqual(common(one, ZERO), polynomial(-2, 0, 1))
        self.assertEqual(common(ZERO, one), polynomial(-2, 0, 1))
        self.assertEqual(common(ZERO, ZERO), ZERO)
        self.assertEqual(common(ZERO, Polynomial([0, 0])), ZERO)

    def test_it_divides_both_and_has_one_at_the_end(self):
        samples = [polynomial(*values) for values in sampled()]
        for one in samples:
            for other in samples:
                for factor in (polynomial(1), polynomial(-3, 2), polynomial(0, Fraction(1, 2), 5)):
                    left, right = one * factor, other * factor
                    found = common(left, right)
                    if len(left) == 0 and len(right) == 0:
                        self.assertEqual(found, ZERO)
                        continue
                    self.assertEqual(found.terms()[-1], 1)
                    self.assertEqual((left.parted(found)[1], right.parted(found)[1]), (ZERO, ZERO))
                    self.assertEqual(found.parted(factor)[1], ZERO)

    def test_large_numbers(self):
        shared = with_roots(Fraction(BIG, PRIME), Fraction(-PRIME, BIG), Fraction(1, PRIME), BIG)
        one = shared * with_roots(Fraction(2, PRIME), 3, Fraction(-7, BIG), 5)
        other = shared * with_roots(Fraction(4, PRIME), 7, Fraction(-9, BIG), -BIG)
        self.assertEqual(common(one, other), shared)


class SingleTest(unittest.TestCase):
    def test_each_root_only_once(self):
        self.assertEqual(single(with_roots(1, 1, 2, 2, 2, Fraction(-1, 3))), with_roots(1, 2, Fraction(-1, 3)))
        self.assertEqual(single(polynomial(0, 0, 0, -5)), polynomial(0, 1))
        self.assertEqual(single(polynomial=with_roots(1, 1)), with_roots(1))

    def test_complex_roots_stay(self):
        factor = polynomial(1, 1, 1)
        self.assertEqual(single(factor * factor * factor * with_roots(4, 4) * polynomial(9)), factor * with_roots(4))

    def test_irrational_roots(self):
        factor = polynomial(-2, 0, 1)
        self.assertEqual(single(factor * factor * polynomial(0, -6)), factor * with_roots(0))

    def test_without_double_roots_only_the_last_coefficient_changes(self):
        self.assertEqual(single(polynomial(2, 0, -4)), polynomial(Fraction(-1, 2), 0, 1))

    def test_constants(self):
        for value in (1, -1, 7, Fraction(-2, 9), BIG):
            self.assertEqual(single(polynomial(value)), Polynomial([1]))

    def test_the_zero_polynomial(self):
        for zero in (ZERO, Polynomial([0, 0, 0])):
            with self.assertRaises(ZeroPolynomial):
                single(zero)

    def test_large_numbers(self):
        places = [Fraction(BIG, PRIME), Fraction(-PRIME, BIG), Fraction(1, PRIME), BIG]
        self.assertEqual(single(with_roots(*places, *places)), with_roots(*places))


if __name__ == "__main__":
    unittest.main()

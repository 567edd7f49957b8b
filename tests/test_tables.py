"""Points 2, 7 and 21: tables."""

import random
import unittest
from fractions import Fraction

from filterorders.errors import BadBeam, BadTable, UnlikeTables
from filterorders.ratios import Ratio
from filterorders.tables import Table
from tests.tools import BIG, NOT_NUMBERS, PRIME
from tests.tools import fraction, items_of, large_number, product, ratio, small_number, sum_of, table, unit_rows, zeros


def some_rows(source, length, number=small_number):
    return [[number(source) for _ in range(length)] for _ in range(length)]


class MakingTablesTest(unittest.TestCase):
    def test_lengths(self):
        source = random.Random(1)
        for length in range(1, 9):
            rows = some_rows(source, length)
            made = table(*rows)
            self.assertEqual(len(made), length)
            self.assertEqual(items_of(made), rows)

    def test_rows_are_tuples_of_ratios(self):
        found = Table([[1, Ratio(1, 2)], (0, -3)]).rows()
        self.assertIsInstance(found, list)
        self.assertEqual(found, [(1, Ratio(1, 2)), (0, -3)])
        for row in found:
            self.assertIsInstance(row, tuple)
            for item in row:
                self.assertIsInstance(item, Ratio)

    def test_tuples_are_taken_as_lists(self):
        wanted = Table([[1, 2], [3, 4]])
        for rows in (((1, 2), (3, 4)), [(1, 2), (3, 4)], ([1, 2], [3, 4]), [[1, 2], (3, 4)]):
            self.assertEqual(Table(rows), wanted)
        self.assertEqual(Table(rows=[[1, 2], [3, 4]]), wanted)

    def test_wrong_numbers_of_rows(self):
        for length in (0, 9, 10, 20):
            for rows in ([[0] * length for _ in range(length)], tuple((0,) * length for _ in range(length))):
                with self.subTest(length), self.assertRaises(BadTable):
                    Table(rows)

    def test_rows_that_are_no_list(self):
        wrong = [None, 1, 0, True, False, "1", "", {}, {0: [1]}, {1}, b"1", 1.5, Ratio(1), object(), Table, Table.unit(1)]
        for rows in wrong + [range(1), iter([[1]]), (row for row in [[1]])]:
            with self.subTest(rows=rows), self.assertRaises(BadTable):
                Table(rows)

    def test_a_row_that_is_no_list(self):
        for row in (None, 1, True, "1", "12", {1: 1}, {1, 2}, b"12", Ratio(1), range(2), iter([1, 2]), object()):
            for rows in ([row], [row, [1, 2]], [[1, 2], row], [[1, 2, 3], [4, 5, 6], row]):
                with self.subTest(rows=rows), self.assertRaises(BadTable):
                    Table(rows)

    def test_rows_of_other_lengths(self):
        wrong = [[[]], [[1, 2]], [[1], [2]], [[1, 2], [3]], [[1], [2, 3]], [[1, 2], [3, 4, 5]], [[1, 2, 3], [4, 5, 6]]]
        wrong += [[[1, 2], [3, 4], [5, 6]], [[1, 2], []], [[], []], [[1, 2, 3], [4, 5, 6], [7, 8]], [1, 2], [[[1]]]]
        for rows in wrong:
            with self.subTest(rows=rows), self.assertRaises(BadTable):
                Table(rows)

    def test_items_that_are_no_numbers(self):
        for given in NOT_NUMBERS:
            for rows in ([[given]], [[1, given], [3, 4]], [[1, 2], [3, given]], ((given, 2), (3, 4))):
                with self.subTest(given=given), self.assertRaises(BadTable):
                    Table(rows)

    def test_lists_are_copied(self):
        rows = [[1, 2], [3, 4]]
        made = Table(rows)
        rows[0][0] = 9
        rows[1] = [7, 7]
        rows.append([5, 5])
        self.assertEqual(made.rows(), [(1, 2), (3, 4)])
        told = made.rows()
        told[0] = (8, 8)
        told.pop()
        self.assertEqual(made.rows(), [(1, 2), (3, 4)])
        self.assertIsNot(made.rows(), made.rows())
        self.assertEqual(rows, [[9, 2], [7, 7], [5, 5]])


class OperationsTest(unittest.TestCase):
    def test_sums_differences_products(self):
        source = random.Random(2)
        for length in range(1, 9):
            for _ in range(4):
                left, right = some_rows(source, length), some_rows(source, length)
                one, other = table(*left), table(*right)
                self.assertEqual(items_of(one + other), sum_of(left, right))
                self.assertEqual(items_of(one - other), sum_of(left, right, -1))
                self.assertEqual(items_of(one * other), product(left, right))

    def test_the_order_of_a_product(self):
        one, other = Table([[1, 2], [3, 4]]), Table([[0, 1], [0, 0]])
        self.assertEqual((one * other).rows(), [(0, 1), (0, 3)])
        self.assertEqual((other * one).rows(), [(3, 4), (0, 0)])

    def test_large_numbers(self):
        source = random.Random(3)
        left, right = some_rows(source, 4, large_number), some_rows(source, 4, large_number)
        one, other = table(*left), table(*right)
        self.assertEqual(items_of(one * other), product(left, right))
        self.assertEqual(items_of(one + other), sum_of(left, right))
        beam = [large_number(source) for _ in range(4)]
        wanted = [sum(item * part for item, part in zip(row, beam)) for row in left]
        self.assertEqual([fraction(item) for item in one.sent([ratio(part) for part in beam])], wanted)
        self.assertEqual(fraction(one.trace()), sum(left[at][at] for at in range(4)))

    def test_tables_of_unlike_lengths(self):
        for length in range(1, 5):
            for other_length in range(1, 5):
                if length != other_length:
                    one, other = Table.unit(length), Table.unit(other_length)
                    for operation in (lambda a, b: a + b, lambda a, b: a - b, lambda a, b: a * b):
                        with self.assertRaises(UnlikeTables):
                            operation(one, other)

    def test_mirror(self):
        self.assertEqual(Table([[1, 2], [3, 4]]).mirror().rows(), [(1, 3), (2, 4)])
        self.assertEqual(Table([[1, 2, 3], [4, 5, 6], [7, 8, 9]]).mirror().rows(), [(1, 4, 7), (2, 5, 8), (3, 6, 9)])
        self.assertEqual(Table([[5]]).mirror(), Table([[5]]))

    def test_trace(self):
        self.assertEqual(Table([[1, 2], [3, 4]]).trace(), 5)
        self.assertEqual(Table([[Ratio(1, 2), 9, 9], [9, Ratio(1, 3), 9], [9, 9, -1]]).trace(), Ratio(-1, 6))
        self.assertIsInstance(Table([[7]]).trace(), Ratio)
        self.assertIsInstance(zeros(3).trace(), Ratio)

    def test_unit(self):
        for length in range(1, 9):
            self.assertEqual(items_of(Table.unit(length)), unit_rows(length))
            self.assertIsInstance(Table.unit(length).rows()[0][0], Ratio)
        self.assertEqual(len(Table.unit(length=3)), 3)
        one = Table([[1, 2], [3, 4]])
        self.assertEqual((one * Table.unit(2), Table.unit(2) * one), (one, one))

    def test_equality(self):
        self.assertTrue(Table([[Ratio(2, 2), 2], [3, 4]]) == Table(((1, 2), (3, Ratio(4)))))
        for rows in ([[1, 2], [3, 5]], [[0, 2], [3, 4]], [[1, 3], [2, 4]], [[1]], [[1, 2, 0], [3, 4, 0], [0, 0, 0]]):
            self.assertFalse(Table([[1, 2], [3, 4]]) == Table(rows))
            self.assertTrue(Table([[1, 2], [3, 4]]) != Table(rows))

    def test_objects_of_other_classes_are_not_equal(self):
        for other in ([[1]], ((1,),), [(1,)], 1, Ratio(1), True, None, "1"):
            self.assertIs(Table([[1]]) == other, False)
            self.assertIs(other == Table([[1]]), False)
            self.assertIs(Table([[1]]) != other, True)

    def test_results_are_tables_of_ratios(self):
        one, other = Table([[1, 2], [3, 4]]), Table([[0, Ratio(1, 2)], [5, -1]])
        for made in (one + other, one - other, one * other, one.mirror()):
            self.assertIsInstance(made, Table)
            for row in made.rows():
                self.assertIsInstance(row, tuple)
                for item in row:
                    self.assertIsInstance(item, Ratio)
        self.assertEqual((one.rows(), other.rows()), ([(1, 2), (3, 4)], [(0, Ratio(1, 2)), (5, -1)]))


class SentTest(unittest.TestCase):
    def test_sent(self):
        made = Table([[1, 2], [3, Ratio(1, 2)]])
        for beam, wanted in [((1, 0), [1, 3]), ([0, 1], [2, Ratio(1, 2)]), ([Ratio(1, 2), -4], [Ratio(-15, 2), Ratio(-1, 2)])]:
            found = made.sent(beam)
            self.assertIsInstance(found, list)
            self.assertEqual(found, wanted)
            for item in found:
                self.assertIsInstance(item, Ratio)
        self.assertEqual(Table([[3]]).sent(beam=[5]), [15])

    def test_numbers_that_are_all_zero(self):
        self.assertEqual(Table([[1, 2], [3, 4]]).sent([0, 0]), [0, 0])
        self.assertEqual(Table([[1, 2], [3, 4]]).sent((Ratio(0), 0)), [0, 0])
        self.assertIsInstance(Table([[1]]).sent([0])[0], Ratio)

    def test_it_is_new_and_changes_nothing(self):
        beam = [1, 2]
        found = Table.unit(2).sent(beam)
        found[0] = 7
        self.assertEqual(beam, [1, 2])
        self.assertEqual(Table.unit(2).sent(beam), [1, 2])

    def test_wrong_beams(self):
        made = Table([[1, 2], [3, 4]])
        wrong = [[], [1], [1, 2, 3], (), (1,), None, 1, "12", "", {1: 1, 2: 2}, {1, 2}, b"12", range(2), iter([1, 2]), True]
        wrong += [[1, given] for given in NOT_NUMBERS] + [[given, 1] for given in NOT_NUMBERS] + [[[1, 2]], ((1, 2), 3)]
        for beam in wrong:
            with self.subTest(beam=beam), self.assertRaises(BadBeam):
                made.sent(beam)

    def test_large_numbers_stay_exact(self):
        found = Table([[Ratio(1, BIG), Ratio(-1, PRIME)], [BIG, PRIME]]).sent([BIG, PRIME])
        self.assertEqual([fraction(item) for item in found], [Fraction(0), Fraction(BIG * BIG + PRIME * PRIME)])


if __name__ == "__main__":
    unittest.main()

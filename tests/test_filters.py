"""Points 3, 5, 7 and 22: filters, and the filters that are made of filters."""

import random
import unittest
from fractions import Fraction

from filterorders.errors import BadBeam, NotFilter, UnlikeTables
from filterorders.ratios import Ratio
from filterorders.tables import Table, beside, filter_of, held, is_filter, joined, meet, plane
from tests.tools import BIG, NOT_NUMBERS, PRIME
from tests.tools import beam_filter, items_of, large_number, some_beams, some_filter, table, zeros

HALF = Fraction(1, 2)
MIRROR_ONLY = table([1, 1], [1, 1])
SQUARE_ONLY = table([1, 1], [0, 0])
NOT_FILTERS = [MIRROR_ONLY, SQUARE_ONLY, table([2]), table([-1]), table([HALF]), table([0, 1], [1, 0]), table([1, 1], [0, 1])]
NOT_FILTERS += [table([HALF, HALF], [HALF, -HALF]), table([1, 0], [0, 2]), table([0, 0], [1, 0]), table([1, 1], [-1, 1])]


def rank(rows):
    """The number of rows left of an elimination with Fractions."""
    rows = [list(row) for row in rows]
    many = 0
    for column in range(len(rows[0]) if rows else 0):
        found = [at for at in range(many, len(rows)) if rows[at][column] != 0]
        if found:
            rows[many], rows[found[0]] = rows[found[0]], rows[many]
            for at in range(many + 1, len(rows)):
                factor = rows[at][column] / rows[many][column]
                rows[at] = [left - factor * right for left, right in zip(rows[at], rows[many])]
            many += 1
    return many


def dimension(made):
    return made.trace().top


class IsFilterTest(unittest.TestCase):
    def test_filters(self):
        filters = [table([0]), table([1]), table([1, 0], [0, 0]), table([HALF, HALF], [HALF, HALF]), Table.unit(4), zeros(3)]
        filters += [table([HALF, -HALF], [-HALF, HALF]), plane(Ratio(1, 2))[1], plane(Ratio(-BIG, PRIME))[1]]
        filters += [table([HALF, 0, HALF], [0, 1, 0], [HALF, 0, HALF])]
        for made in filters:
            self.assertIs(is_filter(made), True)
        self.assertIs(is_filter(table=Table.unit(1)), True)

    def test_tables_near_filters(self):
        for made in NOT_FILTERS:
            self.assertIs(is_filter(made), False)

    def test_equal_to_the_mirror_alone_and_to_the_square_alone(self):
        self.assertEqual(MIRROR_ONLY, MIRROR_ONLY.mirror())
        self.assertEqual(SQUARE_ONLY, SQUARE_ONLY * SQUARE_ONLY)
        self.assertEqual((is_filter(MIRROR_ONLY), is_filter(SQUARE_ONLY)), (False, False))

    def test_a_filter_with_one_number_changed(self):
        made = beam_filter((1, 2, 0), (0, 1, 1))
        for row in range(3):
            for column in range(3):
                rows = items_of(made)
                rows[row][column] += Fraction(1, BIG)
                self.assertIs(is_filter(table(*rows)), False)


class FilterOfTest(unittest.TestCase):
    def assert_filter_of(self, made, length, beams):
        """The filter sends each beam to itself, and its space is not larger than it has to be."""
        self.assertIsInstance(made, Table)
        self.assertEqual(len(made), length)
        self.assertIs(is_filter(made), True)
        for beam in beams:
            self.assertEqual(made.sent(beam), list(beam))
        fractions = [[Fraction(item.top, item.bottom) if isinstance(item, Ratio) else Fraction(item) for item in beam] for beam in beams]
        self.assertEqual(made.trace(), rank(fractions))

    def test_one_beam(self):
        self.assertEqual(filter_of(2, [(1, 0)]), table([1, 0], [0, 0]))
        self.assertEqual(filter_of(2, [(1, 1)]), table([HALF, HALF], [HALF, HALF]))
        self.assertEqual(filter_of(2, [(3, 4)]), table([Fraction(9, 25), Fraction(12, 25)], [Fraction(12, 25), Fraction(16, 25)]))
        self.assertEqual(filter_of(2, [[Ratio(-3, 7), Ratio(-4, 7)]]), filter_of(2, [(3, 4)]))
        self.assertEqual(filter_of(1, [[-5]]), table([1]))

    def test_no_beams(self):
        for length in range(1, 9):
            self.assertEqual(filter_of(length, []), zeros(length))
            self.assertEqual(filter_of(length, ()), zeros(length))

    def test_beams_of_zeros(self):
        self.assertEqual(filter_of(2, [(0, 0)]), zeros(2))
        self.assertEqual(filter_of(3, [(0, 0, 0), [Ratio(0)] * 3]), zeros(3))
        self.assertEqual(filter_of(2, [(0, 0), (1, 1), (0, 0)]), filter_of(2, [(1, 1)]))

    def test_beams_that_depend_on_one_another(self):
        self.assertEqual(filter_of(2, [(1, 1), (2, 2), (-1, -1)]), filter_of(2, [(1, 1)]))
        self.assertEqual(filter_of(3, [(1, 2, 3), (4, 5, 6), (7, 8, 9)]), filter_of(3, [(1, 2, 3), (1, 1, 1)]))
        self.assertEqual(filter_of(3, [(1, 2, 3), (4, 5, 6), (7, 8, 9)]).trace(), 2)

    def test_more_beams_than_the_length(self):
        self.assertEqual(filter_of(1, [[1], [2], [0], [3]]), table([1]))
        self.assertEqual(filter_of(2, [(1, 1), (2, 2), (1, 2), (5, 7)]), Table.unit(2))
        self.assertEqual(filter_of(3, [(1, 0, 1), (0, 1, 0), (1, 1, 1), (2, 3, 2), (1, -1, 1)]).trace(), 2)

    def test_many_beams(self):
        source = random.Random(22)
        for length in range(1, 9):
            for many in range(length + 2):
                beams = some_beams(source, many, length)
                self.assert_filter_of(filter_of(length, beams), length, beams)
                self.assert_filter_of(filter_of(length, [*beams, *beams[::-1]]), length, beams)

    def test_beams_with_large_numbers(self):
        source = random.Random(23)
        for many in range(6):
            beams = some_beams(source, many, 4, large_number)
            self.assert_filter_of(filter_of(4, beams), 4, beams)
        almost = [[BIG, PRIME, 1, 0], [BIG, PRIME, 0, 1], [BIG + 1, PRIME, 0, 0]]
        self.assert_filter_of(filter_of(4, almost), 4, almost)

    def test_the_order_and_size_of_beams_do_not_matter(self):
        source = random.Random(24)
        beams = some_beams(source, 3, 4)
        wanted = filter_of(4, beams)
        self.assertEqual(filter_of(4, beams[::-1]), wanted)
        self.assertEqual(filter_of(4, [[item * Ratio(-2, 3) for item in beam] for beam in beams]), wanted)
        self.assertEqual(filter_of(beams=beams, length=4), wanted)

    def test_wrong_beams(self):
        wrong = [[], [1], [1, 2, 3], (), (1,), None, 1, 0, "12", {1: 1, 2: 2}, {1, 2}, b"12", range(2), True, Ratio(1), iter([1, 2])]
        wrong += [[1, given] for given in NOT_NUMBERS] + [(given, 0) for given in NOT_NUMBERS] + [[(1, 2), (3, 4)]]
        for beam in wrong:
            for beams in ([beam], [(1, 0), beam], [(1, 0), (0, 1), (1, 1), beam], [beam, (0, 0)]):
                with self.subTest(beam=beam), self.assertRaises(BadBeam):
                    filter_of(2, beams)

    def test_lists_are_left_alone(self):
        beams = [[1, 2], [2, 4], [0, 0]]
        made = filter_of(2, beams)
        self.assertEqual(beams, [[1, 2], [2, 4], [0, 0]])
        beams[0][0] = 5
        self.assertEqual(made, filter_of(2, [(1, 2)]))


class FiltersOfFiltersTest(unittest.TestCase):
    def pairs(self):
        source = random.Random(25)
        for length in range(1, 5):
            for _ in range(12):
                yield some_filter(source, length), some_filter(source, length)

    def assert_meet_and_joined(self, p, q):
        """Both are filters with the right relations to p and q, and as large or small as can be."""
        inside, around = meet(p, q), joined(p, q)
        self.assertEqual((is_filter(inside), is_filter(around)), (True, True))
        for made in (p, q):
            self.assertEqual((made * inside, inside * made), (inside, inside))
            self.assertEqual((made * around, around * made), (made, made))
        both = rank(items_of(p) + items_of(q))
        self.assertEqual(dimension(around), both)
        self.assertEqual(dimension(inside), dimension(p) + dimension(q) - both)

    def test_held(self):
        for p, _ in self.pairs():
            self.assertEqual(held(p), Table.unit(len(p)) - p)
            self.assertIs(is_filter(held(p)), True)
            self.assertEqual((held(held(p)), p * held(p)), (p, zeros(len(p))))
        self.assertEqual(held(table=beam_filter((1, 0))), beam_filter((0, 1)))

    def test_meet_and_joined(self):
        for p, q in self.pairs():
            self.assert_meet_and_joined(p, q)
            self.assertEqual((meet(p, q), joined(p, q)), (meet(q, p), joined(q, p)))

    def test_lines_at_any_angle(self):
        p = beam_filter((1, 0))
        for beam in [(1, 1), (0, 1), (3, 4), (1, Fraction(1, BIG)), (Fraction(1, BIG), 1), (BIG, -PRIME)]:
            self.assertEqual((meet(p, beam_filter(beam)), joined(p, beam_filter(beam))), (zeros(2), Table.unit(2)))
        one, other = beam_filter((1, 0, 0)), beam_filter((1, Fraction(1, BIG), 0))
        self.assertEqual((meet(one, other), joined(one, other)), (zeros(3), beam_filter((1, 0, 0), (0, 1, 0))))

    def test_planes_that_share_a_beam(self):
        one, other = beam_filter((1, 0, 0), (0, 1, 0)), beam_filter((0, 1, 0), (0, 0, 1))
        self.assertEqual((meet(one, other), joined(one, other)), (beam_filter((0, 1, 0)), Table.unit(3)))
        one, other = beam_filter((1, 2, 3), (1, 0, 1)), beam_filter((1, 2, 3), (0, 1, 5))
        self.assertEqual((meet(one, other), joined(one, other)), (beam_filter((1, 2, 3)), Table.unit(3)))
        one, other = beam_filter((1, 0, 0, 0), (0, 1, 0, 0)), beam_filter((1, 1, 0, 0), (0, 0, 1, 1))
        self.assertEqual(meet(one, other), beam_filter((1, 1, 0, 0)))
        self.assertEqual(joined(one, other), beam_filter((1, 0, 0, 0), (0, 1, 0, 0), (0, 0, 1, 1)))

    def test_equal_and_nested_spaces(self):
        for beams in ([(1, 2)], [(1, 2), (3, 4)], [(0, 0)]):
            p = beam_filter(*beams)
            self.assertEqual((meet(p, p), joined(p, p)), (p, p))
            self.assertEqual((meet(p, held(p)), joined(p, held(p))), (zeros(2), Table.unit(2)))
        small, large = beam_filter((1, 2, 3)), beam_filter((1, 2, 3), (0, 1, 1))
        self.assertEqual((meet(small, large), joined(small, large)), (small, large))
        self.assertEqual((meet(small, zeros(3)), joined(small, zeros(3))), (zeros(3), small))
        self.assertEqual((meet(small, Table.unit(3)), joined(small, Table.unit(3))), (small, Table.unit(3)))

    def test_names_of_arguments(self):
        one, other = beam_filter((1, 0)), beam_filter((1, 1))
        self.assertEqual((meet(p=one, q=other), joined(p=one, q=other)), (zeros(2), Table.unit(2)))

    def test_large_numbers(self):
        source = random.Random(26)
        for many, other in [(1, 1), (1, 3), (2, 2), (2, 3), (3, 3), (4, 2)]:
            beams = some_beams(source, many, 4, large_number)
            p, q = filter_of(4, beams), some_filter(source, 4, other, large_number)
            self.assert_meet_and_joined(p, q)
            self.assert_meet_and_joined(p, filter_of(4, beams[:1] + some_beams(source, 1, 4, large_number)))

    def test_filters_that_are_longer_than_those_that_callers_make(self):
        p, q = plane(Ratio(1, 2))
        for _ in range(3):
            p, q = beside((p, q), (p, q))
        self.assertEqual((len(p), meet(p, q), joined(p, q), meet(p, p)), (16, zeros_of(16), Table.unit(16), p))
        self.assertEqual((held(p) + p, p * p, p - p), (Table.unit(16), p, zeros_of(16)))

    def test_tables_that_are_no_filters(self):
        for wrong in NOT_FILTERS:
            right = Table.unit(len(wrong))
            with self.assertRaises(NotFilter):
                held(wrong)
            for made in (meet, joined):
                for p, q in ((wrong, right), (right, wrong), (wrong, wrong)):
                    with self.assertRaises(NotFilter):
                        made(p, q)

    def test_not_filter_comes_before_unlike_tables(self):
        for made in (meet, joined):
            for p, q in ((Table.unit(2), Table.unit(3)), (Table.unit(1), zeros(2)), (plane(2)[1], table([1]))):
                with self.assertRaises(UnlikeTables):
                    made(p, q)
            for wrong in NOT_FILTERS:
                for p, q in ((wrong, Table.unit(3)), (Table.unit(3), wrong)):
                    with self.assertRaises(NotFilter):
                        made(p, q)


def zeros_of(length):
    return Table.unit(length) - Table.unit(length)


if __name__ == "__main__":
    unittest.main()

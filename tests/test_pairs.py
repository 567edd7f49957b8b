"""Points 28 and 29: pairs put together from lines and planes, and pairs that are turned."""

import random
import unittest
from fractions import Fraction

from filterorders.errors import BadCounts, BadNumber, BadTable, NotFilter, UnlikeTables
from filterorders.pieces import alike, angles, counts, pair_of, turn_table, turned
from filterorders.ratios import Ratio
from filterorders.tables import Table, beside, is_filter, line, plane
from tests.test_filters import NOT_FILTERS
from tests.tools import BIG, NOT_NUMBERS, PRIME, beam_filter, items_of, ratio, some_filter, table, unit_rows, zeros

NAMES = ["both", "p", "q", "none"]
HALF = Ratio(1, 2)


class PairOfTest(unittest.TestCase):
    def put_together(self, *parts):
        pair = parts[0]
        for part in parts[1:]:
            pair = beside(pair, part)
        return pair

    def test_lines(self):
        for name in NAMES:
            self.assertEqual(pair_of({name: 1}, []), line(name))
            self.assertEqual(pair_of({name: 2}, []), beside(line(name), line(name)))
        self.assertIsInstance(pair_of({"p": 1}, []), tuple)

    def test_planes(self):
        self.assertEqual(pair_of({}, [HALF]), plane(HALF))
        self.assertEqual(pair_of({}, (2, Ratio(-1, 3))), beside(plane(2), plane(Ratio(-1, 3))))
        self.assertEqual(pair_of({}, [0, 1]), beside(plane(0), plane(1)))

    def test_lines_in_the_order_of_the_keys_and_then_planes(self):
        wanted = self.put_together(line("both"), line("both"), line("p"), line("q"), line("none"), plane(3))
        self.assertEqual(pair_of({"both": 2, "p": 1, "q": 1, "none": 1}, [3]), wanted)
        self.assertEqual(pair_of({"none": 1, "q": 1, "p": 1, "both": 2}, [3]), wanted)
        wanted = self.put_together(line("p"), line("none"), line("none"), plane(HALF), plane(2))
        self.assertEqual(pair_of({"p": 1, "none": 2, "q": 0}, [HALF, 2]), wanted)

    def test_what_was_put_together_is_found_again(self):
        lines = {"both": 1, "q": 2, "none": 1}
        pair = pair_of(counts=lines, numbers=[HALF, 3])
        self.assertEqual(counts(*pair), {"both": 1, "p": 0, "q": 2, "none": 1, "planes": 2})
        self.assertEqual(angles(*pair).worth(Ratio(9, 25)), 0)
        self.assertEqual((is_filter(pair[0]), is_filter(pair[1]), len(pair[0])), (True, True, 8))
        self.assertEqual(lines, {"both": 1, "q": 2, "none": 1})

    def test_wrong_names(self):
        for name in ("planes", "", "P", "Both", "pq", "x", 1, 0, None, True, ("p",), b"p", 1.5, Ratio):
            for lines in ({name: 1}, {"p": 1, name: 0}, {name: 0, "q": 1}, {"both": 1, name: "x"}):
                with self.subTest(name=name), self.assertRaises(BadCounts):
                    pair_of(lines, [])

    def test_wrong_counts(self):
        for many in (-1, -BIG, None, "1", "", 1.0, True, False, Ratio(1), HALF, [], [1], (1,), b"1", Fraction(1), object()):
            for name in NAMES:
                for lines in ({name: many}, {name: many, "both" if name != "both" else "p": 1}):
                    with self.subTest(many=many), self.assertRaises(BadCounts):
                        pair_of(lines, [])

    def test_wrong_numbers(self):
        for given in NOT_NUMBERS:
            for numbers in ([given], [HALF, given, "later", None], (given, 2)):
                with self.subTest(given=given), self.assertRaises(BadNumber) as caught:
                    pair_of({"p": 1}, numbers)
                self.assertIs(caught.exception.given, given)

    def test_lengths_zero_and_above_eight(self):
        for lines in ({}, {"p": 0}, {name: 0 for name in NAMES}):
            with self.assertRaises(BadTable):
                pair_of(lines, [])
        wrong = [({"p": 9}, []), ({"both": 3, "p": 3, "q": 3}, []), ({}, [2] * 5), ({"p": 1}, [2] * 4), ({"none": 7}, [1])]
        for lines, numbers in wrong + [({"p": BIG}, []), ({"none": BIG, "q": BIG}, [2]), ({}, [2] * 50)]:
            with self.assertRaises(BadTable):
                pair_of(lines, numbers)
        right = [({"p": 8}, []), ({"both": 2, "p": 2, "q": 2, "none": 2}, []), ({}, [2] * 4), ({"p": 2}, [2] * 3), ({"q": 1}, [])]
        for lines, numbers in right:
            self.assertEqual(len(pair_of(lines, numbers)[0]), sum(lines.values()) + 2 * len(numbers))

    def test_the_order_of_the_errors(self):
        for lines in ({"x": 1}, {"p": -1}, {"p": True}):
            for numbers in ([], ["x"], [2] * 5, [2] * 4 + [None]):
                with self.assertRaises(BadCounts):
                    pair_of(lines, numbers)
        for lines in ({}, {"p": 9}, {"p": 1}):
            with self.assertRaises(BadNumber):
                pair_of(lines, [2] * 5 + [None])


class TurnTableTest(unittest.TestCase):
    def test_the_items(self):
        for length in range(2, 5):
            for first in range(length):
                for second in range(length):
                    if first != second:
                        for m in (Fraction(1, 2), Fraction(-3), Fraction(BIG, PRIME), Fraction(0), Fraction(1)):
                            cosine, sine = (1 - m * m) / (1 + m * m), 2 * m / (1 + m * m)
                            rows = unit_rows(length)
                            rows[first][first], rows[first][second] = cosine, -sine
                            rows[second][first], rows[second][second] = sine, cosine
                            made = turn_table(length, first, second, ratio(m))
                            self.assertIsInstance(made, Table)
                            self.assertEqual(items_of(made), rows)
                            self.assertEqual(made * made.mirror(), Table.unit(length))

    def test_a_quarter_and_names(self):
        self.assertEqual(turn_table(2, 0, 1, 1), table([0, -1], [1, 0]))
        self.assertEqual(turn_table(2, 1, 0, 1), table([0, 1], [-1, 0]))
        self.assertEqual(turn_table(m=2, second=2, first=0, length=3).rows()[0], (Ratio(-3, 5), 0, Ratio(-4, 5)))
        self.assertEqual(turn_table(4, 1, 3, 0), Table.unit(4))

    def test_it_turns_the_first_filter_of_a_plane_into_the_second_one(self):
        for m in (HALF, -3, Ratio(BIG, PRIME)):
            p, q = plane(m)
            self.assertEqual(turned((p, p), turn_table(2, 0, 1, m)), (q, q))


class TurnedTest(unittest.TestCase):
    def test_turned_pairs_are_alike(self):
        source = random.Random(29)
        for length in range(2, 5):
            for _ in range(5):
                pair = some_filter(source, length), some_filter(source, length)
                turn = turn_table(length, 0, length - 1, ratio(Fraction(source.randint(-4, 4), source.randint(1, 4))))
                found = turned(pair, turn)
                self.assertIsInstance(found, tuple)
                self.assertEqual(found, (turn * pair[0] * turn.mirror(), turn * pair[1] * turn.mirror()))
                self.assertEqual((is_filter(found[0]), is_filter(found[1])), (True, True))
                self.assertIs(alike(pair, found), True)
                self.assertEqual(turned(found, turn.mirror()), pair)

    def test_reflections_and_exchanges(self):
        pair = beam_filter((1, 2)), beam_filter((1, 0))
        self.assertEqual(turned(pair, table([0, 1], [1, 0])), (beam_filter((2, 1)), beam_filter((0, 1))))
        self.assertEqual(turned(pair, table([1, 0], [0, -1])), (beam_filter((1, -2)), beam_filter((1, 0))))
        self.assertEqual(turned(pair=pair, table=Table.unit(2)), pair)
        self.assertEqual(turned(pair, table([-1, 0], [0, -1])), pair)

    def test_tables_that_do_not_turn(self):
        pair = plane(2)
        wrong = [zeros(2), table([1, 1], [0, 1]), table([2, 0], [0, 1]), table([1, 0], [0, 0]), table([0, 1], [0, 1])]
        wrong += [table([1, 1], [-1, 1]), table([2]), zeros(3), table([1, 0, 0], [0, 1, 0], [0, 1, 1]), plane(2)[1]]
        for made in wrong:
            with self.assertRaises(BadTable):
                turned(pair, made)

    def test_tables_of_another_length(self):
        for made in (Table.unit(1), Table.unit(3), turn_table(3, 0, 1, 2), table([-1])):
            with self.assertRaises(UnlikeTables):
                turned(plane(2), made)

    def test_the_order_of_the_errors(self):
        for made in (Table.unit(2), Table.unit(3), zeros(2), zeros(3)):
            for wrong in NOT_FILTERS:
                for pair in ((wrong, Table.unit(2)), (Table.unit(2), wrong), (wrong, Table.unit(3))):
                    with self.assertRaises(NotFilter):
                        turned(pair, made)
            with self.assertRaises(UnlikeTables):
                turned((Table.unit(2), Table.unit(3)), made)


if __name__ == "__main__":
    unittest.main()

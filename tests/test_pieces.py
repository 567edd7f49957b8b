"""Points 6, 25, 26 and 27: pairs taken apart, their counts and angles, and pairs that are alike."""

import random
import unittest
from fractions import Fraction

from filterorders.errors import NotFilter, UnlikeTables
from filterorders.pieces import alike, angles, counts, pair_of, pieces, traces, turn_table, turned, unlike
from filterorders.polynomials import Polynomial
from filterorders.ratios import Ratio
from filterorders.roots import angle
from filterorders.tables import Table, beside, filter_of, held, is_filter, line, plane
from tests.test_filters import NOT_FILTERS
from tests.tools import BIG, PRIME, beam_filter, fraction, items_of, large_number, polynomial, product, ratio
from tests.tools import some_beams, some_filter, with_roots, zeros

KEYS = ["both", "p", "q", "none", "planes"]
ONE = Polynomial([1])


def counted(both=0, p=0, q=0, none=0, planes=0):
    return {"both": both, "p": p, "q": q, "none": none, "planes": planes}


def mixed(pair, seed):
    """The pair turned about several angles."""
    source = random.Random(seed)
    length = len(pair[0])
    for _ in range(3 if length > 1 else 0):
        first, second = source.sample(range(length), 2)
        pair = turned(pair, turn_table(length, first, second, Ratio(source.randint(-3, 3), source.randint(1, 4))))
    return pair


def some_pairs(seed, lengths=range(1, 5), many=6):
    source = random.Random(seed)
    for length in lengths:
        for _ in range(many):
            yield some_filter(source, length), some_filter(source, length)


class PiecesTest(unittest.TestCase):
    def assert_pieces(self, p, q):
        """All that the document says of the five filters."""
        found = pieces(p, q)
        self.assertIsInstance(found, dict)
        self.assertEqual(list(found), KEYS)
        total = p - p
        for name in KEYS:
            made = found[name]
            self.assertIsInstance(made, Table)
            self.assertIs(is_filter(made), True)
            self.assertEqual((made * p, made * q), (p * made, q * made))
            for other in KEYS:
                if other != name:
                    self.assertEqual(made * found[other], p - p)
            total = total + made
        self.assertEqual(total, Table.unit(len(p)))
        self.assertEqual((p * found["both"], q * found["both"]), (found["both"], found["both"]))
        self.assertEqual((p * found["p"], q * found["p"]), (found["p"], p - p))
        self.assertEqual((p * found["q"], q * found["q"]), (p - p, found["q"]))
        self.assertEqual((p * found["none"], q * found["none"]), (p - p, p - p))
        self.assert_no_line_among_the_planes(p, q, found["planes"])
        return found

    def assert_no_line_among_the_planes(self, p, q, rest):
        """In the space of "planes" p and q have half the dimensions each, and pq has their product's traces."""
        many = fraction(rest.trace())
        self.assertEqual((fraction((rest * p).trace()), fraction((rest * q).trace())), (many / 2, many / 2))
        found = angles(p, q)
        self.assertEqual(2 * (len(found) - 1), many)
        for end in (0, 1):
            self.assertNotEqual(found.worth(end), 0)

    def test_lines(self):
        for name in KEYS[:4]:
            found = self.assert_pieces(*line(name))
            self.assertEqual({key: found[key].trace().top for key in KEYS}, counted(**{name: 1}))

    def test_planes(self):
        for m in (Ratio(1, 2), 2, -3, Ratio(BIG, PRIME), Ratio(1, BIG)):
            found = self.assert_pieces(*plane(m))
            self.assertEqual(found["planes"], Table.unit(2))
        for m, names in ((0, ("both", "none")), (1, ("p", "q")), (-1, ("p", "q"))):
            found = self.assert_pieces(*plane(m))
            self.assertEqual([name for name in KEYS if found[name] != zeros(2)], list(names))

    def test_each_of_them_the_table_of_zeros(self):
        for name in KEYS:
            pair = None
            for other in KEYS:
                if other != name:
                    part = plane(Ratio(1, 2)) if other == "planes" else line(other)
                    pair = part if pair is None else beside(pair, part)
            for p, q in (pair, mixed(pair, 1)):
                found = self.assert_pieces(p, q)
                self.assertEqual([key for key in KEYS if found[key] == zeros(len(p))], [name])

    def test_the_very_spaces(self):
        p, q = filter_of(3, [(1, 0, 0)]), filter_of(3, [(1, 1, 0), (0, 0, 1)])
        found = self.assert_pieces(p, q)
        self.assertEqual((found["q"], found["planes"]), (beam_filter((0, 0, 1)), beam_filter((1, 0, 0), (0, 1, 0))))
        p, q = beam_filter((1, 2, 0, 0), (0, 0, 1, 0)), beam_filter((1, 2, 0, 0), (0, 0, 0, 1))
        found = self.assert_pieces(p, q)
        self.assertEqual(found["both"], beam_filter((1, 2, 0, 0)))
        self.assertEqual((found["p"], found["q"]), (beam_filter((0, 0, 1, 0)), beam_filter((0, 0, 0, 1))))
        self.assertEqual((found["none"], found["planes"]), (beam_filter((-2, 1, 0, 0)), zeros(4)))

    def test_equal_and_opposite_filters(self):
        p = beam_filter((1, 2, 3), (0, 1, 1))
        self.assertEqual([pieces(p, p)[key] for key in KEYS], [p, zeros(3), zeros(3), held(p), zeros(3)])
        self.assertEqual([pieces(p, held(p))[key] for key in KEYS], [zeros(3), p, held(p), zeros(3), zeros(3)])

    def test_many_pairs(self):
        for p, q in some_pairs(11):
            self.assert_pieces(p, q)
        for at in range(6):
            pair = pair_of({"both": at // 2, "q": 1, "none": 2 - at // 2}, [Ratio(1, 3)] * (1 + at % 2))
            self.assert_pieces(*mixed(pair, at))

    def test_large_numbers(self):
        source = random.Random(12)
        for many, other in [(1, 1), (2, 2), (3, 2), (3, 3), (1, 4)]:
            self.assert_pieces(some_filter(source, 4, many, large_number), some_filter(source, 4, other, large_number))
        beams = some_beams(source, 3, 4, large_number)
        found = self.assert_pieces(filter_of(4, beams[:2]), filter_of(4, beams[1:]))
        self.assertEqual(found["both"], filter_of(4, beams[1:2]))

    def test_names_and_new_dicts(self):
        p, q = plane(Ratio(1, 2))
        found = pieces(p=p, q=q)
        found.clear()
        self.assertEqual(list(pieces(p, q)), KEYS)


class CountsTest(unittest.TestCase):
    def test_counts_of_pairs_that_were_put_together(self):
        for at, wanted in enumerate([counted(1), counted(p=2), counted(q=1, none=1), counted(1, 1, 1, 1), counted(2, 0, 1, 3, 1)]):
            lines = {name: wanted[name] for name in KEYS[:4]}
            pair = pair_of(lines, [Ratio(1, 2)] * wanted["planes"])
            for p, q in (pair, mixed(pair, at)):
                found = counts(p, q)
                self.assertEqual((found, list(found)), (wanted, KEYS))
                for many in found.values():
                    self.assertIs(type(many), int)

    def test_planes(self):
        for numbers in ([Ratio(1, 2)], [Ratio(1, 2)] * 2, [Ratio(1, 2), Ratio(1, 3)], [2, 3, 4], [Ratio(1, 2), 2, Ratio(1, 3), 5]):
            self.assertEqual(counts(*mixed(pair_of({}, numbers), 3)), counted(planes=len(numbers)))
        self.assertEqual(counts(*pair_of({"p": 1}, [0, 1, Ratio(1, 2)])), counted(both=1, none=1, p=2, q=1, planes=1))

    def test_p_and_q_exchanged(self):
        for p, q in some_pairs(13):
            one, other = counts(p, q), counts(q, p)
            self.assertEqual(other, {**one, "p": one["q"], "q": one["p"]})
            self.assertEqual(one["both"] + one["p"] + one["planes"], p.trace())
            self.assertEqual(sum(one.values()) + one["planes"], len(p))
        self.assertEqual(counts(p=Table.unit(1), q=zeros(1)), counted(p=1))


class AnglesTest(unittest.TestCase):
    def test_no_planes(self):
        for pair in ([line(name) for name in KEYS[:4]]) + [plane(0), plane(1), pair_of({"both": 2, "p": 1, "q": 1}, [])]:
            self.assertEqual(angles(*pair), ONE)
            self.assertIsInstance(angles(*pair), Polynomial)

    def test_one_plane(self):
        self.assertEqual(angles(*plane(Ratio(1, 2))), with_roots(Fraction(9, 25)))
        p, q = filter_of(3, [(1, 0, 0)]), filter_of(3, [(1, 1, 0), (0, 0, 1)])
        self.assertEqual(angles(p=p, q=q), with_roots(Fraction(1, 2)))

    def test_planes_of_the_same_angle_number(self):
        pair = pair_of({"both": 1, "none": 1}, [Ratio(1, 2), 2, Ratio(-1, 2)])
        third = Fraction(9, 25)
        self.assertEqual(angles(*pair), with_roots(third, third, third))
        self.assertEqual(angles(*mixed(pair, 5)), with_roots(third, third, third))

    def test_planes_of_several_angle_numbers(self):
        for numbers in ([2, 3], [Ratio(1, 2), Ratio(1, 3), Ratio(1, 4)], [2, 2, 3, Ratio(1, 7)], [2, 0, 3, 1]):
            pair = pair_of({}, numbers)
            places = [fraction(angle(m)) for m in numbers if m not in (0, 1)]
            self.assertEqual(angles(*pair), with_roots(*places))
            self.assertEqual(angles(*mixed(pair, 6)), with_roots(*places))
        self.assertEqual(angles(*pair_of({"both": 2, "p": 1, "q": 1}, [2, 3])), with_roots(Fraction(9, 25), Fraction(16, 25)))

    def test_angle_numbers_that_are_not_rational(self):
        p, q = beam_filter((1, 0, 0, 0), (0, 1, 0, 0)), beam_filter((1, 0, 1, 0), (1, 1, 0, 1))
        found = angles(p, q)
        self.assertEqual(counts(p, q), counted(planes=2))
        # The angle numbers are those of the upper left part of q, 2 by 2.
        rows = items_of(q)
        trace, determinant = rows[0][0] + rows[1][1], rows[0][0] * rows[1][1] - rows[0][1] * rows[1][0]
        self.assertEqual(found, polynomial(determinant, -trace, 1))
        square = trace * trace - 4 * determinant
        self.assertEqual(square, Fraction(1, 5))

    def test_many_pairs(self):
        """The polynomial has the powers of pq that are left of the planes as sums of powers of its roots."""
        for p, q in some_pairs(14):
            found, rest = angles(p, q), pieces(p, q)["planes"]
            # By its own polynomial, q as p sees it is nothing on the part of the planes in the space of p.
            seen, part = p * q * p * rest, p * rest
            made, power = part - part, part
            for term in found.terms():
                made = made + Table([[item * term for item in row] for row in power.rows()])
                power = power * seen
            self.assertEqual(made, zeros(len(p)))
            self.assertEqual(found.terms()[-1], 1)
            if len(found) > 1:
                self.assertEqual(found.terms()[-2], -seen.trace())

    def test_large_numbers(self):
        for m in (Ratio(BIG, PRIME), Ratio(1, BIG), Ratio(PRIME)):
            self.assertEqual(angles(*pair_of({"both": 1}, [m, m])), with_roots(fraction(angle(m)), fraction(angle(m))))
        source = random.Random(15)
        p, q = some_filter(source, 4, 2, large_number), some_filter(source, 4, 2, large_number)
        found = angles(p, q)
        self.assertEqual((len(found), -found.terms()[1]), (3, (p * q).trace()))


class TracesTest(unittest.TestCase):
    def test_traces(self):
        for p, q in some_pairs(16):
            found = traces(p, q)
            self.assertIsInstance(found, list)
            power, wanted = items_of(Table.unit(len(p))), [Fraction(len(p)), fraction(p.trace()), fraction(q.trace())]
            for _ in range(len(p)):
                power = product(power, product(items_of(p), items_of(q)))
                wanted.append(sum(power[at][at] for at in range(len(p))))
            self.assertEqual([fraction(item) for item in found], wanted)
            for item in found:
                self.assertIsInstance(item, Ratio)
        self.assertEqual(traces(p=Table.unit(1), q=Table.unit(1)), [1, 1, 1, 1])

    def test_known_traces(self):
        self.assertEqual(traces(*plane(Ratio(1, 2))), [2, 1, 1, Ratio(9, 25), Ratio(81, 625)])
        self.assertEqual(traces(*line("p")), [1, 1, 0, 0])
        self.assertEqual(traces(*pair_of({"both": 2, "q": 1}, [])), [3, 2, 3, 2, 2, 2])

    def test_the_list_is_new(self):
        told = traces(*line("p"))
        told.pop()
        self.assertEqual(len(traces(*line("p"))), 4)


class AlikeTest(unittest.TestCase):
    def assert_unlike(self, one, other, at):
        self.assertEqual((unlike(one, other), unlike(other, one)), (at, at))
        self.assertEqual((alike(one, other), alike(other, one)), (False, False))

    def assert_alike(self, one, other):
        self.assertEqual((unlike(one, other), unlike(other, one)), (None, None))
        self.assertIs(alike(one, other), True)

    def test_turned_pairs(self):
        for seed, pair in enumerate(some_pairs(17)):
            self.assert_alike(pair, pair)
            self.assert_alike(pair, mixed(pair, seed))

    def test_planes_of_opposite_and_inverse_numbers(self):
        for m in (Ratio(1, 2), Ratio(BIG, PRIME)):
            self.assert_alike(plane(m), plane(-m))
            self.assert_alike(plane(m), plane(Ratio(1).over(m)))
        self.assert_alike(beside(line("p"), plane(2)), beside(plane(2), line("p")))
        self.assert_alike(plane(0), pair_of({"both": 1, "none": 1}, []))
        self.assert_alike(plane(1), pair_of({"p": 1, "q": 1}, []))

    def test_pairs_of_other_lengths(self):
        self.assert_unlike(line("none"), pair_of({"none": 2}, []), 0)
        self.assert_unlike(plane(2), beside(plane(2), line("none")), 0)

    def test_the_first_index_at_which_the_lists_differ(self):
        self.assert_unlike(line("p"), line("q"), 1)
        self.assert_unlike(line("p"), line("both"), 2)
        self.assert_unlike(line("q"), line("none"), 2)
        self.assert_unlike(plane(2), plane(3), 3)
        self.assert_unlike(plane(2), plane(0), 3)
        self.assert_unlike(plane(2), plane(1), 3)
        # The angle numbers of the last pair have the same sum as 1/2 and 1/2.
        half = beam_filter((1, 0)), beam_filter((1, 1))
        one = beside(half, half)
        p, q = beam_filter((1, 0, 0, 0), (0, 1, 0, 0)), beam_filter((1, 0, 1, 0), (0, 1, 0, 1))
        self.assert_alike(one, (p, q))
        q = beam_filter((1, 0, 1, 0), (1, 1, 0, 1))
        self.assertEqual(traces(p, q)[3], 1)
        self.assert_unlike(one, (p, q), 4)
        self.assert_unlike(pair_of({"both": 1, "p": 1, "q": 1, "none": 1}, []), one, 4)

    def test_alike_is_the_same_length_counts_and_angles(self):
        made = list(some_pairs(18, range(2, 4), 8)) + [plane(2), plane(3), plane(0), plane(1), line("p"), line("q")]
        for one in made:
            for other in made:
                wanted = len(one[0]) == len(other[0]) and counts(*one) == counts(*other) and angles(*one) == angles(*other)
                self.assertIs(alike(one=one, other=other), wanted)
                self.assertIs(unlike(one=one, other=other) is None, wanted)
                left, right = traces(*one), traces(*other)
                if not wanted:
                    self.assertEqual(unlike(one, other), [a == b for a, b in zip(left, right)].index(False))


class ErrorsTest(unittest.TestCase):
    def test_tables_that_are_no_filters(self):
        for wrong in NOT_FILTERS:
            for right in (Table.unit(len(wrong)), Table.unit(3)):
                for pair in ((wrong, right), (right, wrong), (wrong, wrong)):
                    for function in (pieces, counts, angles, traces):
                        with self.assertRaises(NotFilter):
                            function(*pair)
                    for function in (alike, unlike):
                        for one, other in ((pair, line("p")), (line("p"), pair), (pair, pair)):
                            with self.assertRaises(NotFilter):
                                function(one, other)

    def test_filters_of_unlike_lengths(self):
        for pair in ((Table.unit(1), Table.unit(2)), (zeros(3), beam_filter((1, 2)))):
            for function in (pieces, counts, angles, traces):
                with self.assertRaises(UnlikeTables):
                    function(*pair)
            for function in (alike, unlike):
                for one, other in ((pair, line("p")), (line("p"), pair), (pair, pair)):
                    with self.assertRaises(UnlikeTables):
                        function(one, other)

    def test_not_filter_comes_before_unlike_tables_of_another_pair(self):
        for function in (alike, unlike):
            for wrong in ((NOT_FILTERS[0], Table.unit(2)), (Table.unit(2), NOT_FILTERS[0])):
                for one, other in (((Table.unit(1), Table.unit(2)), wrong), (wrong, (Table.unit(1), Table.unit(2)))):
                    with self.assertRaises(NotFilter):
                        function(one, other)


if __name__ == "__main__":
    unittest.main()

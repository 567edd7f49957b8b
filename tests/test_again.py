"""Points 46 to 49: rounds through two filters, how much of a beam they leave, and how many are enough."""

import random
import unittest
from fractions import Fraction

from filterorders.again import enough_rounds, greatest_angle, rest_at_most, rounds, slow_beam
from filterorders.errors import BadNumber, BadShare, NotFilter, UnlikeTables
from filterorders.pieces import angles, pair_of, pieces, turn_table, turned
from filterorders.ratios import Ratio
from filterorders.roots import Root, angle
from filterorders.tables import Table, filter_of, line, plane
from tests.test_filters import NOT_FILTERS
from tests.test_questions import LINE_NAMES, some_pairs
from tests.tools import BIG, NOT_NUMBERS
from tests.tools import fraction, has_no_reading_below_0, items_of, product, ratio, strength, sum_of, unit_rows, zeros

SHARES = [0, 1, Ratio(1, 2), Ratio(1, 100), Ratio(99, 100), Ratio(1, 10 ** 6), Ratio(1, BIG), Ratio(BIG - 1, BIG)]
WRONG_SHARES = [-1, 2, Ratio(-1, 2), Ratio(3, 2), Ratio(-1, BIG), Ratio(BIG, BIG - 1), BIG, -BIG] + NOT_NUMBERS
WRONG_ROUNDS = [-1, -12, -BIG, Ratio(1, 2), Ratio(2), Ratio(0), Ratio(-1)] + NOT_NUMBERS
# The angle numbers of this pair are the roots of x x - x + 1/5.
NOT_RATIONAL = filter_of(4, [(1, 0, 0, 0), (0, 1, 0, 0)]), filter_of(4, [(1, 0, 1, 0), (0, 1, 1, 1)])


def power_rows(p, q, n):
    made = unit_rows(len(p))
    for _ in range(n):
        made = product(made, product(items_of(p), items_of(q)))
    return made


def sent(rows, beam):
    return [sum(left * right for left, right in zip(row, beam)) for row in rows]


def is_at_most(p, q, n, share):
    """Whether no beam has more left, by the tables alone."""
    both = items_of(pieces(p, q)["both"])
    rest = sum_of(power_rows(p, q, n), both, -1)
    rows = sum_of([[0] * len(p) for _ in range(len(p))], sum_of(unit_rows(len(p)), both, -1), fraction(ratio_of(share)))
    return has_no_reading_below_0(sum_of(rows, product([list(row) for row in zip(*rest)], rest), -1))


def ratio_of(number):
    return number if isinstance(number, Ratio) else Ratio(number)


def planes_pairs():
    """Pairs with the greatest angle number that is told, as a Fraction."""
    found = []
    for counts, numbers in (
        ({}, ["1/2"]), ({}, ["1/3", "1/2"]), ({"both": 1}, ["2/3"]), ({"both": 2, "none": 1, "p": 1, "q": 1}, ["1/7"]), ({}, ["9/10", "1/9"]),
        ({"q": 1}, ["1/2", "1/2"]), ({"none": 1}, ["1/40", "2/5", "3"]), ({}, ["-1/3", "1/2", "2", "5/4"]),
    ):
        pair = pair_of(counts, [ratio(number) for number in numbers])
        most = max(fraction(angle(ratio(number))) for number in numbers)
        found.append((pair, most))
        found.append((turned(pair, turn_table(len(pair[0]), 0, len(pair[0]) - 1, Ratio(1, 4))), most))
    return found


class RoundsTest(unittest.TestCase):
    def test_rounds(self):
        for p, q in some_pairs(9, 6) + [NOT_RATIONAL]:
            for n in (0, 1, 2, 3, 12):
                found = rounds(p, q, n)
                self.assertIsInstance(found, Table)
                self.assertEqual(items_of(found), power_rows(p, q, n))

    def test_known_rounds(self):
        p, q = filter_of(2, [(1, 0)]), filter_of(2, [(1, 1)])
        self.assertEqual(rounds(p, q, 0), Table.unit(2))
        self.assertEqual(rounds(p, q, 1), Table([[Ratio(1, 2), Ratio(1, 2)], [0, 0]]))
        self.assertEqual(rounds(q, p, 1), Table([[Ratio(1, 2), 0], [Ratio(1, 2), 0]]))
        self.assertEqual(rounds(p=p, q=q, n=12), Table([[Ratio(1, 4096), Ratio(1, 4096)], [0, 0]]))
        self.assertEqual([rounds(*line(name), 5).trace() for name in LINE_NAMES], [1, 0, 0, 0])

    def test_a_round_goes_through_q_first(self):
        p, q = plane(Ratio(1, 2))
        self.assertEqual(rounds(p, q, 1).sent([0, 25]), p.sent(q.sent([0, 25])))
        self.assertEqual(rounds(p, q, 1).sent([0, 25]), [12, 0])

    def test_wrong_numbers_of_rounds(self):
        for given in WRONG_ROUNDS:
            for function in (lambda p, q, n: rounds(p, q, n), lambda p, q, n: rest_at_most(p, q, n, 1), lambda p, q, n: slow_beam(p, q, n, 1)):
                with self.subTest(given=given), self.assertRaises(BadNumber) as caught:
                    function(*plane(1), given)
                self.assertIs(caught.exception.given, given)

    def test_the_order_of_the_errors(self):
        p, q = plane(Ratio(1, 2))
        calls = {
            rounds: [(n,) for n in (0, -1, True)], greatest_angle: [()],
            rest_at_most: [(n, share) for n in (1, -1) for share in (1, 5, None)],
            slow_beam: [(n, share) for n in (1, "x") for share in (1, -5, "x")],
            enough_rounds: [(share, 3) for share in (1, 7, None)],
        }
        for function, rests in calls.items():
            for rest in rests:
                for wrong in NOT_FILTERS:
                    for pair in ((wrong, Table.unit(len(wrong))), (zeros(3), wrong)):
                        with self.assertRaises(NotFilter):
                            function(*pair, *rest)
                with self.assertRaises(UnlikeTables):
                    function(zeros(1), zeros(2), *rest)
        for function in (rest_at_most, slow_beam):
            for share in (-1, "x", True, None):
                with self.assertRaises(BadNumber) as caught:
                    function(p, q, -3, share)
                self.assertEqual(caught.exception.given, -3)


class GreatestAngleTest(unittest.TestCase):
    def test_known_angle_numbers(self):
        for (p, q), most in planes_pairs():
            found = greatest_angle(p, q)
            self.assertIsInstance(found, Root)
            self.assertEqual(found.against(ratio(most)), 0)
        self.assertEqual(greatest_angle(q=plane(Ratio(1, 2))[1], p=plane(Ratio(1, 2))[0]).against(Ratio(9, 25)), 0)

    def test_one_that_is_not_rational(self):
        found = greatest_angle(*NOT_RATIONAL)
        self.assertEqual(angles(*NOT_RATIONAL).terms(), [Ratio(1, 5), Ratio(-1), Ratio(1)])
        self.assertEqual((found.against(Ratio(72360679, 10 ** 8)), found.against(Ratio(72360680, 10 ** 8))), (1, -1))

    def test_no_planes(self):
        for name in LINE_NAMES:
            self.assertIsNone(greatest_angle(*line(name)))
        for counts in ({"both": 1, "none": 2}, {"p": 1, "q": 1}, {"both": 2, "p": 2, "q": 2, "none": 2}):
            pair = pair_of(counts, [])
            self.assertIsNone(greatest_angle(*pair))
            if len(pair[0]) < 8:
                self.assertIsNone(greatest_angle(*turned(pair, turn_table(len(pair[0]), 0, 1, 2))))
        self.assertIsNone(greatest_angle(*plane(0)))
        self.assertIsNone(greatest_angle(*plane(1)))

    def test_it_is_the_greatest_root(self):
        for p, q in some_pairs(10):
            found = greatest_angle(p, q)
            polynomial = angles(p, q)
            self.assertEqual(found is None, len(polynomial) == 1)
            if found is not None:
                self.assertEqual((found.sign_of(polynomial), found.against(0), found.against(1)), (0, 1, -1))


class RestTest(unittest.TestCase):
    def check(self, p, q, n, share):
        """Whether the rest is at most a share, and what slow_beam shows of it."""
        found = rest_at_most(p, q, n, share)
        self.assertIn(found, (True, False))
        beam = slow_beam(p, q, n, share)
        self.assertEqual(beam is None, found)
        if beam is not None:
            self.check_beam(beam, p, q, n, share)
        return found

    def check_beam(self, beam, p, q, n, share):
        self.assertIsInstance(beam, list)
        self.assertEqual([isinstance(item, Ratio) for item in beam], [True] * len(p))
        start = [fraction(item) for item in beam]
        stays = sent(items_of(pieces(p, q)["both"]), start)
        left = sent(power_rows(p, q, n), start)
        rest = [one - two for one, two in zip(left, stays)]
        at_first = [one - two for one, two in zip(start, stays)]
        self.assertGreater(strength(rest), fraction(ratio_of(share)) * strength(at_first))

    def test_just_what_is_left(self):
        tiny = Ratio(1, BIG)
        for (p, q), most in planes_pairs():
            for n in (1, 2, 12):
                left = ratio(most ** (2 * n - 1))
                self.assertIs(self.check(p, q, n, left), True)
                self.assertIs(self.check(p, q, n, left + tiny), True)
                self.assertIs(self.check(p, q, n, left - tiny), False)
                self.assertIs(self.check(p, q, n, 0), False)
                self.assertIs(self.check(p, q, n, 1), True)

    def test_one_that_is_not_rational(self):
        # The fifth power of the greatest angle number lies between these two numbers.
        p, q = NOT_RATIONAL
        low, high = Ratio(19838699, 10 ** 8), Ratio(19838700, 10 ** 8)
        found = greatest_angle(p, q).narrowed(Ratio(1, 10 ** 12))
        self.assertTrue(fraction(low) < fraction(found.low) ** 5 and fraction(found.high) ** 5 < fraction(high))
        self.assertIs(self.check(p, q, 3, low), False)
        self.assertIs(self.check(p, q, 3, high), True)
        for share in SHARES:
            for n in (0, 1, 2, 12):
                self.assertIs(self.check(p, q, n, share), is_at_most(p, q, n, share))

    def test_by_tables_alone(self):
        source = random.Random(48)
        for p, q in some_pairs(11):
            for n in (0, 1, 2, 3, source.randint(4, 12)):
                for share in source.sample(SHARES, 3) + [Ratio(source.randint(0, 20), 20)]:
                    self.assertIs(self.check(p, q, n, share), is_at_most(p, q, n, share))

    def test_no_planes(self):
        for name in LINE_NAMES:
            for n in (1, 2, 12):
                self.assertIs(self.check(*line(name), n, 0), True)
        pair = turned(pair_of({"both": 1, "p": 1, "none": 1, "q": 1}, []), turn_table(4, 1, 2, 3))
        for n in (1, 12):
            self.assertIs(self.check(*pair, n, 0), True)

    def test_no_round(self):
        # All that does not stay is there at first.
        for p, q in (plane(Ratio(1, 2)), line("p"), line("none"), pair_of({"both": 1, "q": 1}, []), NOT_RATIONAL):
            for share in (0, Ratio(1, 2), Ratio(BIG - 1, BIG)):
                self.assertIs(self.check(p, q, 0, share), False)
            for share in (1, Ratio(1)):
                self.assertIs(self.check(p, q, 0, share), True)
        for pair in (line("both"), (Table.unit(4), Table.unit(4))):
            self.assertIs(self.check(*pair, 0, 0), True)

    def test_by_name(self):
        p, q = plane(Ratio(1, 2))
        self.assertIs(rest_at_most(p=p, q=q, n=1, share=Ratio(9, 25)), True)
        self.check_beam(slow_beam(p=p, q=q, n=1, share=Ratio(8, 25)), p, q, 1, Ratio(8, 25))

    def test_beams_that_need_a_sum(self):
        # The beam lies askew to all coordinates, and the share is near to what is left at most.
        pair = pair_of({}, [Ratio(2, 5), Ratio(3, 7), Ratio(1, 2)])
        for first, second in ((0, 2), (1, 4), (3, 5), (0, 5), (2, 3)):
            rows = [list(row) for row in Table.unit(6).rows()]
            rows[first][first], rows[first][second], rows[second][first], rows[second][second] = Ratio(3, 5), Ratio(-4, 5), Ratio(4, 5), Ratio(3, 5)
            pair = turned(pair, Table(rows))
        most = fraction(angle(Ratio(2, 5)))
        for n in (1, 4):
            self.assertIs(self.check(*pair, n, ratio(most ** (2 * n - 1))), True)
            for less in (Fraction(1, 10 ** 3), Fraction(1, 10 ** 30)):
                self.assertIs(self.check(*pair, n, ratio(most ** (2 * n - 1) - less)), False)

    def test_greatest_angle_numbers_that_halving_meets(self):
        pair = filter_of(2, [(1, 0)]), filter_of(2, [(1, 1)])
        for n in (1, 2, 12):
            left = Ratio(1, 2 ** (2 * n - 1))
            for share in (0, left - Ratio(1, BIG), left * Ratio(1, 2)):
                self.assertIs(self.check(*pair, n, share), False)

    def test_beams_that_are_only_together_above_the_share(self):
        # The coordinates in the space of q leave 1/2 each, and some sums of them leave 4/5.
        for side in (Ratio(3, 10), Ratio(-3, 10)):
            half, c = Ratio(1, 2), Ratio(2, 5)
            p = Table([[half, side, c, 0], [side, half, 0, c], [c, 0, half, -side], [0, c, -side, half]])
            q = filter_of(4, [(1, 0, 0, 0), (0, 1, 0, 0)])
            self.assertEqual(greatest_angle(p, q).against(Ratio(4, 5)), 0)
            for share in (half, Ratio(3, 4), Ratio(79, 100), Ratio(1, 4)):
                self.assertIs(self.check(p, q, 1, share), False)
            self.assertIs(self.check(p, q, 1, Ratio(4, 5)), True)

    def test_wrong_shares(self):
        p, q = plane(Ratio(1, 2))
        for given in WRONG_SHARES:
            for n in (0, 1, 12):
                for pair in ((p, q), (p, p)):
                    for function in (rest_at_most, slow_beam):
                        with self.subTest(given=given), self.assertRaises(BadShare) as caught:
                            function(*pair, n, given)
                        self.assertIs(caught.exception.given, given)


class EnoughTest(unittest.TestCase):
    def test_known_numbers(self):
        p, q = filter_of(2, [(1, 0)]), filter_of(2, [(1, 1)])
        # What is left at most is 1/2, 1/8, 1/32 and so on.
        for n in range(1, 13):
            left = Ratio(1, 2 ** (2 * n - 1))
            self.assertEqual(enough_rounds(p, q, left, 12), n)
            self.assertEqual(enough_rounds(p, q, left, n), n)
            self.assertEqual(enough_rounds(p, q, left - Ratio(1, BIG), 12), n + 1 if n < 12 else None)
            if n > 1:
                self.assertIsNone(enough_rounds(p, q, left, n - 1))
        self.assertIsInstance(enough_rounds(p=p, q=q, share=1, most=1), int)
        self.assertEqual(enough_rounds(p, q, 1, 12), 1)
        self.assertIsNone(enough_rounds(p, q, 0, 12))

    def test_no_planes(self):
        for name in LINE_NAMES:
            for most in (1, 12):
                self.assertEqual(enough_rounds(*line(name), 0, most), 1)

    def test_it_is_the_first_that_is_so(self):
        for p, q in some_pairs(12, 6) + [NOT_RATIONAL]:
            for share in SHARES:
                for most in (1, 2, 5):
                    so = [n for n in range(1, most + 1) if rest_at_most(p, q, n, share)]
                    self.assertEqual(enough_rounds(p, q, share, most), so[0] if so else None)

    def test_wrong_shares(self):
        for given in WRONG_SHARES:
            for pair in (plane(Ratio(1, 2)), line("p"), line("both")):
                with self.subTest(given=given), self.assertRaises(BadShare) as caught:
                    enough_rounds(*pair, given, 3)
                self.assertIs(caught.exception.given, given)


if __name__ == "__main__":
    unittest.main()

"""The examples of the interface, with what the document shows for them."""

import unittest

from filterorders.again import enough_rounds, greatest_angle, rest_at_most, rounds, slow_beam
from filterorders.bounds import at_most, counter, never_negative, reading, shape, strength_at_most
from filterorders.desk import Desk
from filterorders.errors import BadAnswer, BadRoot, BadText, ByZero, Never, NotMirror
from filterorders.facts import Facts
from filterorders.formulas import Formula, opposite
from filterorders.pieces import alike, angles, counts, pair_of, pieces, traces, turn_table, turned, unlike
from filterorders.polynomials import Polynomial, common, single
from filterorders.questions import at_least, chance_at_least, less, outcomes, plain_row, row_formula, same_chance, share
from filterorders.ratios import Ratio, as_ratio, sign
from filterorders.roots import Root, angle, cells, nowhere_below, root_count, roots
from filterorders.tables import Table, filter_of, is_filter, joined, meet, parting, plane, same, value


class ExamplesTest(unittest.TestCase):
    def test_ratios(self):
        half = Ratio(-3, -6)
        found = half.top, half.bottom, (half + 2).text(), half.over(Ratio(-3, 4)).text()
        found += half < 1, half == Ratio(1, 2), Ratio(4, 2) == 2
        self.assertEqual(found, (1, 2, "5/2", "-2/3", True, True, True))
        self.assertEqual((Ratio.read("-7/3").top, sign(Ratio(-1, 9)), as_ratio(5).text()), (-7, -1, "5"))
        with self.assertRaises(ByZero):
            half.over(0)

    def test_polynomials(self):
        one = Polynomial([2, -3, 1])
        other = Polynomial([-1, Ratio(1, 2), 0, 0])
        found = len(one), len(other), one.worth(Ratio(1, 2)).text(), [term.text() for term in one.slope().terms()]
        found += ((one * other).worth(3) == 1,)
        self.assertEqual(found, (3, 2, "3/4", ["-3", "2"], True))
        quotient, rest = one.parted(other)
        found = rest == Polynomial([]), common(one, other) == Polynomial([-2, 1]), single(one * one * other) == one
        self.assertEqual(found, (True, True, True))
        self.assertEqual([term.text() for term in quotient.terms()], ["-2", "2"])

    def test_roots(self):
        square = Polynomial([-1, 0, 2])
        root = Root(square, 0, 1)
        found = root_count(square, -1, 1), root.against(Ratio(7, 10)), root.sign_of(Polynomial([0, -3, 0, 6]))
        found += (root.narrowed(Ratio(1, 100)) == root,)
        self.assertEqual(found, (2, 1, 0, True))
        kinds = [cell[0] for cell in cells([square, Polynomial([-1, 3])], 0, 1)]
        self.assertEqual(kinds, ["between", "at", "between", "at", "between"])
        self.assertEqual(roots(Polynomial([0, -1, 3]), 0, 1)[1].against(Ratio(1, 3)), 0)
        found = nowhere_below(Polynomial([1, -4, 4])), nowhere_below(Polynomial([1, -4, 3])), angle(Ratio(1, 2)).text()
        self.assertEqual(found, (True, False, "9/25"))
        with self.assertRaises(BadRoot):
            Root(square, -1, 1)

    def test_formulas(self):
        p, q = Formula({"p": 1}), Formula({"q": 1})
        both = p * q + q * p
        found = both.text(), (both * p).text(), both.is_mirror(), (p * q).mirror().text(), (both * both).degree()
        self.assertEqual(found, ("pq + qp", "qp + pqp", True, "qp", 4))
        found = Formula.read("-1/2 + 3 p") == Formula({"pp": 3, "": Ratio(-1, 2)}), opposite(p).text()
        found += (opposite(p) * p == Formula({}),)
        self.assertEqual(found, (True, "1 - p", True))
        self.assertEqual(Formula.read("-1/2 + 3 p - q + 2/3 pqp").text(), "-1/2 + 3 p - q + 2/3 pqp")
        with self.assertRaises(BadText):
            Formula.read("1 p")

    def test_tables(self):
        p, q = plane(Ratio(1, 2))
        found = [[number.text() for number in row] for row in q.rows()], is_filter(q), meet(p, q).trace() == 0
        self.assertEqual(found, ([["9/25", "12/25"], ["12/25", "16/25"]], True, True))
        self.assertEqual(joined(p, q), Table.unit(2))
        found = q == filter_of(2, [(3, 4)]), value(Formula.read("pqp"), p, q).rows()[0][0].text()
        self.assertEqual(found, (True, "9/25"))
        self.assertEqual([number.text() for number in (p * q).sent([5, 0])], ["9/5", "0"])
        found = same(Formula.read("pq - pqp"), Formula.read("0")), parting(Formula.read("pq"), Formula.read("pq"))
        self.assertEqual(found, (False, None))
        self.assertIs(value(Formula.read("pq - qp"), p, q) == Table([[0, 0], [0, 0]]), False)

    def test_pieces(self):
        p, q = filter_of(3, [(1, 0, 0)]), filter_of(3, [(1, 1, 0), (0, 0, 1)])
        self.assertEqual(counts(p, q), {"both": 0, "p": 0, "q": 1, "none": 0, "planes": 1})
        self.assertEqual(angles(p, q), Polynomial([Ratio(-1, 2), 1]))
        self.assertEqual(pieces(p, q)["q"], filter_of(3, [(0, 0, 1)]))
        self.assertEqual([item.text() for item in traces(p, q)], ["3", "1", "2", "1/2", "1/4", "1/8"])
        pair = pair_of({"q": 1}, [Ratio(1, 2)])
        self.assertEqual(angles(pair[0], pair[1]), Polynomial([Ratio(-9, 25), 1]))
        self.assertEqual((alike(pair, (p, q)), unlike(pair, (p, q))), (False, 3))
        self.assertIs(alike(pair, turned(pair, turn_table(3, 0, 2, 3))), True)
        self.assertEqual(pair_of({"p": 2}, [])[0].trace(), 2)

    def test_bounds(self):
        formula = Formula.read("p + q - pq - qp")
        found = [[term.text() for term in polynomial.terms()] for polynomial in shape(formula)]
        self.assertEqual((found, never_negative(formula)), ([["2", "-2"], ["1", "-2", "1"]], True))
        p, q, beam = counter(Formula.read("pq + qp"))
        self.assertTrue(reading(Formula.read("pq + qp"), p, q, beam) < 0)
        found = at_most(Formula.read("pq + qp"), 2), strength_at_most(Formula.read("pq"), Ratio(99, 100))
        found += at_most(Formula.read("-pq - qp"), Ratio(1, 4)), at_most(Formula.read("-pq - qp"), Ratio(6, 25))
        self.assertEqual(found, (True, False, True, False))
        with self.assertRaises(NotMirror):
            shape(Formula.read("pq"))

    def test_questions(self):
        p, q = plane(Ratio(1, 2))
        found = share("pq", p, q, (1, 0)).text(), share("pQP", p, q, (1, 0)).text(), share("", p, q, [1, 2]) == 1
        self.assertEqual(found, ("9/25", "144/625", True))
        found = plain_row("ppQP"), plain_row("pqP"), plain_row("pqQp"), row_formula("pQ") == Formula({"p": 1, "pqp": -1})
        self.assertEqual(found, (("p", 1, 1), ("p", 1, 1), None, True))
        found = at_least("pq", "pqp"), less("pq", "pqp"), at_least("pq", "qp"), same_chance(["pq", "PQ"], ["qp", "QP"])
        self.assertEqual(found, (True, None, False, True))
        found = outcomes("qp"), chance_at_least(["p"], ["pq", "pQp"]), chance_at_least(["pq", "Pq"], ["q"])
        self.assertEqual(found, (["qp", "qP", "Qp", "QP"], True, False))
        self.assertEqual(outcomes("pq"), ["pq", "pQ", "Pq", "PQ"])
        with self.assertRaises(BadAnswer) as caught:
            share("px", p, q, (1, 0))
        self.assertEqual(caught.exception.answer, "x")

    def test_facts(self):
        alike_orders = Facts(nothing=[Formula.read("pq - qp")])
        found = alike_orders.lines(), alike_orders.stretches(), alike_orders.verdict(Formula.read("pq - pqp"))
        found += (alike_orders.allows(Ratio(1, 2)),)
        self.assertEqual(found, (["both", "p", "q", "none"], [], "sure", False))
        half = Facts(never_negative=[Formula.read("-p + 2 pqp")], not_nothing=[Formula.read("p")])
        found = half.lines(), half.allows(Ratio(1, 2)), half.allows(Ratio(1, 3)), half.verdict(Formula.read("pq"))
        found += (half.verdict(Formula.read("p - q")),)
        self.assertEqual(found, (["both", "q", "none"], True, False, "barred", "open"))
        (first, has_first, last, has_last), = half.stretches()
        self.assertEqual((first.against(Ratio(1, 2)), has_first, last == 1, has_last), (0, True, True, False))
        found = half.model(Formula.read("pq"), True), len(half.model(Formula.read("p - q"), True)) > 0
        found += (Facts(nothing=[Formula.read("1")]).clashes(),)
        self.assertEqual(found, (None, True, True))

    def test_again(self):
        p, q = filter_of(2, [(1, 0)]), filter_of(2, [(1, 1)])
        found = rounds(p, q, 2) == Table([[Ratio(1, 4), Ratio(1, 4)], [0, 0]]), greatest_angle(p, q).against(Ratio(1, 2))
        self.assertEqual(found + (greatest_angle(p, p),), (True, 0, None))
        found = rest_at_most(p, q, 2, Ratio(1, 8)), rest_at_most(p, q, 2, Ratio(1, 9)), enough_rounds(p, q, Ratio(1, 100), 9)
        self.assertEqual(found + (enough_rounds(p, q, 0, 5),), (True, False, 4, None))
        self.assertEqual((rest_at_most(p, p, 1, 0), slow_beam(p, q, 1, 1)), (True, None))

    def test_desk(self):
        desk = Desk(filter_of(2, [(1, 0)]), filter_of(2, [(1, 1)]), (1, 0))
        found = desk.sure(), desk.ask("q").text(), desk.beam() == [Ratio(1, 2), Ratio(1, 2)], desk.chance("Pq").text(), desk.sure()
        self.assertEqual(found, ("p", "1/2", True, "1/4", "q"))
        self.assertEqual((desk.supposed("P", "Q").text(), len(desk), desk.answers(), desk.share().text()), ("1/2", 1, "q", "1/2"))
        self.assertEqual(desk.text(), "2\n1 0\n0 0\n1/2 1/2\n1/2 1/2\n1 0\nq")
        with self.assertRaises(Never) as caught:
            desk.ask("Q")
        self.assertEqual(caught.exception.answer, "Q")


if __name__ == "__main__":
    unittest.main()

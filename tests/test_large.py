"""Point 9: the largest inputs that callers may pass, for questions, facts, rounds and desks."""

import random
import unittest
from fractions import Fraction

from filterorders.again import enough_rounds, greatest_angle, rest_at_most, rounds, slow_beam
from filterorders.bounds import reading
from filterorders.desk import Desk, read_desk
from filterorders.facts import Facts
from filterorders.formulas import Formula
from filterorders.pieces import pair_of, pieces
from filterorders.questions import chance, chance_at_least, chance_formula, chance_less, less, outcomes, parted_chance, plain_row
from filterorders.questions import row_formula, same_chance, share
from filterorders.ratios import Ratio
from filterorders.roots import Root, angle
from filterorders.tables import Table, filter_of, plane
from tests.test_facts import has_model, is_allowed, rules_of
from tests.tools import BIG, PRIME, ROWS
from tests.tools import fraction, large_number, ratio, share_of, some_beams, strength

SIXTEEN = ["", "p", "q", "pq", "qp", "pqp", "qpq", "pqpq", "qpqp", "pqpqp", "qpqpq", "pqpqpq", "qpqpqp", "ppqqpp", "qqppqq", "pppqqq"]


def large_pair(seed, many=2, length=4):
    source = random.Random(seed)
    return [filter_of(length, some_beams(source, many, length, large_number)) for _ in range(2)] + [some_beams(source, 1, length, large_number)[0]]


def large_formula(source):
    return Formula({row: ratio(large_number(source)) for row in SIXTEEN})


def large_rows(seed, first="pP", then="qQ"):
    source = random.Random(seed)
    return ["".join(source.choice(then if at % 2 else first) for at in range(12)) for _ in range(8)]


class LargeQuestionsTest(unittest.TestCase):
    def test_shares(self):
        p, q, beam = large_pair(1)
        rows = large_rows(2)
        found = share(rows[0], p, q, beam)
        self.assertEqual(fraction(found), share_of(rows[0], p, q, beam))
        total = chance(rows, p, q, beam)
        self.assertEqual(fraction(total), sum(fraction(share(row, p, q, beam)) for row in rows))
        start = strength([fraction(item) for item in beam])
        self.assertEqual(fraction(reading(row_formula(rows[0]), p, q, beam)), fraction(found) * start)

    def test_rows_of_12_answers(self):
        for row in large_rows(3):
            for other in large_rows(4, "qQ", "pP"):
                p, q, beam = less(row, other)
                self.assertLess(share_of(row, p, q, beam), share_of(other, p, q, beam))
        self.assertEqual(plain_row("pqpqPQPQpqPQ"), ("p", 8, 3))

    def test_lists_of_8_rows(self):
        rows, others = large_rows(5), large_rows(6, "qQ", "pP")
        self.assertIs(same_chance(rows, rows[::-1]), True)
        self.assertIs(chance_at_least(rows, rows[1:]), True)
        for found, is_less in ((chance_less(rows, others), True), (parted_chance(rows, others), False)):
            p, q, beam = found
            one, two = [sum((share_of(row, p, q, beam) for row in side), Fraction(0)) for side in (rows, others)]
            self.assertTrue(one < two if is_less else one != two)

    def test_all_outcomes_of_12_questions(self):
        rows = outcomes("pqpqpqpqpqpq")
        self.assertEqual((len(rows), rows[0], rows[-1]), (4096, "pqpqpqpqpqpq", "PQPQPQPQPQPQ"))
        self.assertEqual(chance_formula(outcomes("pqpqpq")), Formula({"": 1}))


class LargeFactsTest(unittest.TestCase):
    def test_formulas_of_16_rows(self):
        source = random.Random(7)
        formulas = [large_formula(source) for _ in range(4)]
        mirrors = [formula + formula.mirror() for formula in formulas]
        numbers = [Ratio(source.randint(10 ** 39, BIG), PRIME * 100) for _ in range(3)] + [Ratio(1, BIG), Ratio(BIG - 1, BIG)]
        for lists in (
            dict(nothing=formulas), dict(never_negative=mirrors), dict(not_nothing=formulas), dict(somewhere_negative=mirrors),
            dict(never_negative=mirrors[:2], somewhere_negative=mirrors[2:3], not_nothing=formulas[3:]),
        ):
            facts = Facts(**lists)
            for number in numbers:
                self.assertIs(facts.allows(number), is_allowed(facts, fraction(number)))
            denials = [(formula, False) for formula in facts.not_nothing] + [(formula, True) for formula in facts.somewhere_negative]
            self.assertIs(facts.clashes(), not has_model(rules_of(facts), denials))
            self.assertEqual([len(stretch) for stretch in facts.stretches()], [4] * len(facts.stretches()))
            if not facts.clashes():
                self.check_verdict(facts, mirrors[3])

    def check_verdict(self, facts, formula):
        for sign_only in (False, True):
            found = facts.verdict(formula, sign_only=sign_only)
            models = [facts.model(formula, holds, sign_only=sign_only) is None for holds in (True, False)]
            self.assertEqual(models, [found == "barred", found == "sure"])

    def test_near_angle_numbers(self):
        # Allowed from 1/2 to a little above it.
        low, high = Ratio(1, 2), Ratio(1, 2) + Ratio(1, BIG)
        facts = Facts(never_negative=[Formula({"pqp": low + high, "p": -low * high, "pqpqp": -1})], not_nothing=[Formula({"p": 1})])
        self.assertEqual(facts.lines(), ["q", "none"])
        (first, has_first, last, has_last), = facts.stretches()
        self.assertEqual((first.against(low), has_first, last.against(high), has_last), (0, True, 0, True))
        self.assertEqual([facts.allows(number) for number in (low - Ratio(1, PRIME), low, high, high + Ratio(1, BIG))], [False, True, True, False])
        parts = facts.model(Formula({"p": 1, "pqp": -2}), True)
        self.assertEqual([part[0] for part in parts], ["root"])
        self.assertEqual(Root(*parts[0][1:]).against(low), 0)
        (kind, m), = [part for part in facts.model(Formula({"p": 1, "pqp": -2}), False) if part[0] == "plane"]
        self.assertTrue(low < angle(m) and angle(m) < high)


class LargeRoundsTest(unittest.TestCase):
    def test_tables_of_the_length_4(self):
        for seed, many in ((8, 2), (9, 3)):
            p, q, _ = large_pair(seed, many)
            product = Table.unit(4)
            for _ in range(12):
                product = product * p * q
            self.assertEqual(rounds(p, q, 12), product)
            both = pieces(p, q)["both"]
            greatest = greatest_angle(p, q)
            for n in (0, 1, 12):
                for number in (0, Ratio(1, BIG), Ratio(BIG - 1, BIG)):
                    found = slow_beam(p, q, n, number)
                    self.assertEqual(found is None, rest_at_most(p, q, n, number))
                    if found is not None:
                        stays = both.sent(found)
                        rest = [one - two for one, two in zip(rounds(p, q, n).sent(found), stays)]
                        at_first = [one - two for one, two in zip(found, stays)]
                        share_left = fraction(number if isinstance(number, Ratio) else Ratio(number))
                        left = strength([fraction(item) for item in rest])
                        self.assertGreater(left, share_left * strength([fraction(item) for item in at_first]))
            so = [n for n in range(1, 13) if rest_at_most(p, q, n, Ratio(1, 3))]
            self.assertEqual(enough_rounds(p, q, Ratio(1, 3), 12), so[0] if so else None)
            self.assertEqual((greatest.against(0), greatest.against(1)), (1, -1))

    def test_angle_numbers_near_to_0_and_1(self):
        for m in (Ratio(1, BIG), Ratio(BIG - 1, BIG), Ratio(PRIME, BIG)):
            pair = pair_of({"both": 1, "q": 1}, [m])
            turn = fraction(plane(m)[1].rows()[0][0])
            for n in (1, 12):
                left = ratio(turn ** (2 * n - 1))
                self.assertIs(rest_at_most(*pair, n, left), True)
                self.assertIs(rest_at_most(*pair, n, left * Ratio(BIG - 1, BIG)), False)
                self.assertIsNotNone(slow_beam(*pair, n, left * Ratio(BIG - 1, BIG)))


class LargeDesksTest(unittest.TestCase):
    def test_steps(self):
        p, q, beam = large_pair(11)
        desk = Desk(p, q, beam)
        row = "pqPQpqPQpqPQ"
        total = Fraction(1)
        for answer in row:
            total = total * fraction(desk.ask(answer))
        self.assertEqual((fraction(desk.share()), desk.answers(), desk.sure()), (total, row, "Q"))
        self.assertEqual(desk.share(), share(row, p, q, beam))
        found = read_desk(desk.text())
        self.assertEqual((found.text(), found.beam(), found.share()), (desk.text(), desk.beam(), desk.share()))

    def test_texts_of_500_characters(self):
        start = f"2\n1 0\n0 0\n1/2 1/2\n1/2 1/2\n{BIG}/{PRIME} -{PRIME}/{BIG}"
        text = start + "\nq\np" * ((500 - len(start)) // 4)
        self.assertGreater(len(text), 495)
        desk = read_desk(text)
        self.assertEqual((desk.text(), len(desk)), (text, (500 - len(start)) // 4 * 2))
        for _ in range(len(desk)):
            desk.undo()
        self.assertEqual(desk.beam(), [Ratio(BIG, PRIME), Ratio(-PRIME, BIG)])


if __name__ == "__main__":
    unittest.main()

"""Points 43 and 44: what follows from facts, and two filters that show it."""

import random
import unittest

from filterorders.errors import Clash, NotMirror
from filterorders.facts import Facts
from filterorders.polynomials import Polynomial
from filterorders.ratios import Ratio
from filterorders.roots import Root
from filterorders.tables import LINES, beside, line, plane
from tests.test_bounds import NOT_MIRRORS
from tests.test_facts import HALF_ROOT, denials_of, facts_of, has_model, holds_at_root, own_mirror, rules_of, some_facts
from tests.tools import fraction_rows, has_no_reading_below_0, is_nothing, read, some_formula

# Facts, a claim, and the verdicts on it as it is and by its sign alone.
KNOWN = [
    ({}, "0", "sure", "sure"),
    ({}, "1", "barred", "sure"),
    ({}, "-1", "barred", "barred"),
    ({}, "p", "open", "sure"),
    ({}, "-p", "open", "open"),
    ({}, "pq + qp", "open", "open"),
    ({}, "1/4 + pq + qp", "barred", "sure"),
    ({"nothing": ["pq - qp"]}, "pqp - qpq", "sure", "sure"),
    ({"nothing": ["pq - qp"]}, "pq + qp", "open", "sure"),
    ({"nothing": ["pq - qp"], "not_nothing": ["pq"]}, "pq + qp", "barred", "sure"),
    ({"nothing": ["p"]}, "pq + qp", "sure", "sure"),
    ({"nothing": ["p"]}, "-p + q", "open", "sure"),
    ({"nothing": ["p"]}, "p - q", "open", "open"),
    ({"nothing": ["p"], "not_nothing": ["q"]}, "p - q", "barred", "barred"),
    ({"nothing": ["p", "1 - q"]}, "p - q", "barred", "barred"),
    ({"never_negative": ["p - q"]}, "q - pqp", "sure", "sure"),
    ({"never_negative": ["p - q"]}, "p - qpq", "open", "sure"),
    ({"never_negative": ["-p + 2 pqp"], "not_nothing": ["p"]}, "pqp", "barred", "sure"),
    ({"never_negative": ["-p + 2 pqp"], "not_nothing": ["p"]}, "-pqp", "barred", "barred"),
    ({"never_negative": ["-p + 2 pqp"]}, "-p + 3 pqp", "open", "sure"),
    ({"never_negative": ["-p + 2 pqp"]}, "-3 p + 5 pqp", "open", "open"),
    ({"nothing": ["-p + 2 pqp"]}, "p - 4 pqp + 4 pqpqp", "sure", "sure"),
    ({"nothing": ["-p + 2 pqpqp"]}, "p - 2 pqp", "open", "open"),
    ({"nothing": ["-p + 2 pqpqp"], "not_nothing": ["p"]}, "p - 2 pqp", "barred", "barred"),
    ({"nothing": ["-p + 2 pqpqp"], "not_nothing": ["p"]}, "-p + 2 pqp", "barred", "sure"),
    ({"nothing": ["p - 5 pqp + 6 pqpqp"], "not_nothing": ["p"]}, "p - 2 pqp", "open", "sure"),
    ({"nothing": ["p - 5 pqp + 6 pqpqp"], "not_nothing": ["p - 2 pqp"]}, "p - 2 pqp", "barred", "sure"),
    ({"nothing": ["p - 5 pqp + 6 pqpqp"], "not_nothing": ["p - 3 pqp"]}, "p - 3 pqp", "barred", "barred"),
    ({"nothing": ["p - 5 pqp + 6 pqpqp"], "somewhere_negative": ["2 p - 5 pqp"]}, "-2 p + 5 pqp", "barred", "open"),
    ({"somewhere_negative": ["6/25 + pq + qp"]}, "6/25 + pq + qp", "barred", "barred"),
    ({"somewhere_negative": ["6/25 + pq + qp"]}, "pq - qp", "barred", None),
    ({"somewhere_negative": ["p - q"], "never_negative": ["1 - p - q + pq + qp"]}, "-p + q", "barred", "open"),
    ({"not_nothing": ["p", "q", "1 - p", "1 - q"]}, "pq", "open", None),
    ({"not_nothing": ["pq - qp"]}, "p", "barred", "sure"),
    ({"not_nothing": ["pq - qp"]}, "p - q", "barred", "barred"),
    ({"never_negative": ["-1 + p + q"], "nothing": ["pq"]}, "1 - p - q", "sure", "sure"),
]
CLASHING = [
    {"nothing": ["1"]}, {"never_negative": ["-1"]}, {"not_nothing": ["0"]}, {"somewhere_negative": ["p"]},
    {"nothing": ["-p + 2 pqp"], "not_nothing": ["p - 4 pqp + 4 pqpqp"]}, {"nothing": ["p"], "not_nothing": ["q", "p"]},
]


class VerdictTest(unittest.TestCase):
    def check_model(self, parts, facts, formula, wanted, sign_only):
        """Two filters of the parts have all facts and answer the claim."""
        self.assertIsInstance(parts, list)
        self.assertGreater(len(parts), 0)
        for part in parts:
            self.check_part(part)
        for rule, by_sign in rules_of(facts):
            self.assertTrue(all(self.is_so(rule, part, by_sign) for part in parts))
        for denied, by_sign in denials_of(facts):
            self.assertFalse(all(self.is_so(denied, part, by_sign) for part in parts))
        self.assertIs(all(self.is_so(formula, part, sign_only) for part in parts), wanted)
        self.check_filters(parts, facts, formula, wanted, sign_only)

    def check_part(self, part):
        self.assertIsInstance(part, tuple)
        kind, *rest = part
        if kind == "line":
            self.assertIn(rest, [[name] for name in LINES])
        elif kind == "plane":
            m, = rest
            self.assertIsInstance(m, Ratio)
            self.assertTrue(m < 1 and -m < 0)
        else:
            self.assertEqual(kind, "root")
            polynomial, low, high = rest
            self.assertEqual([isinstance(item, Ratio) for item in (low, high)], [True, True])
            self.assertIsInstance(polynomial, Polynomial)
            root = Root(polynomial, low, high)
            self.assertEqual((root.against(0), root.against(1)), (1, -1))

    def is_so(self, formula, part, by_sign):
        if part[0] == "root":
            return holds_at_root(formula, Root(*part[1:]), by_sign)
        rows = fraction_rows(formula, *(line(part[1]) if part[0] == "line" else plane(part[1])))
        return has_no_reading_below_0(rows) if by_sign else is_nothing(rows)

    def check_filters(self, parts, facts, formula, wanted, sign_only):
        """The same with the tables of the two filters, where they are rational."""
        pairs = [line(part[1]) if part[0] == "line" else plane(part[1]) for part in parts if part[0] != "root"]
        if len(pairs) == len(parts):
            pair = pairs[0]
            for other in pairs[1:]:
                pair = beside(pair, other)
            claims = [(rule, by_sign, True) for rule, by_sign in rules_of(facts)]
            claims += [(rule, by_sign, False) for rule, by_sign in denials_of(facts)] + [(formula, sign_only, wanted)]
            for claim, by_sign, so in claims:
                rows = fraction_rows(claim, *pair)
                self.assertIs(has_no_reading_below_0(rows) if by_sign else is_nothing(rows), so)

    def check(self, facts, formula, sign_only):
        """The verdict, which is that of both models."""
        found = facts.verdict(formula, sign_only=sign_only)
        for wanted, told in ((True, "barred"), (False, "sure")):
            parts = facts.model(formula, wanted, sign_only=sign_only)
            self.assertEqual(parts is None, found == told)
            if parts is not None:
                self.check_model(parts, facts, formula, wanted, sign_only)
        return found

    def test_known_facts(self):
        for texts, text, plain, by_sign in KNOWN:
            with self.subTest(texts=texts, text=text):
                facts = facts_of(**texts)
                if plain is not None:
                    self.assertEqual(self.check(facts, read(text), False), plain)
                    self.assertEqual(facts.verdict(read(text)), plain)
                if by_sign is not None:
                    self.assertEqual(self.check(facts, read(text), True), by_sign)

    def test_any_facts(self):
        source = random.Random(44)
        seen = []
        for _ in range(150):
            facts = some_facts(source)
            rules, denials = rules_of(facts), denials_of(facts)
            for sign_only in (False, True):
                claim = own_mirror(source, longest=3) if sign_only else some_formula(source, 2, longest=3)
                claim = source.choice([claim, claim] + [formula for formula, by_sign in rules + denials if by_sign or not sign_only])
                if sign_only and not claim.is_mirror():
                    continue
                if facts.clashes():
                    self.check_clash(facts, claim, sign_only)
                else:
                    able = has_model(rules + [(claim, sign_only)], denials), has_model(rules, denials + [(claim, sign_only)])
                    wanted = {(True, False): "sure", (False, True): "barred", (True, True): "open"}[able]
                    self.assertEqual(self.check(facts, claim, sign_only), wanted)
                    seen.append((wanted, sign_only))
        self.assertEqual(len(set(seen)), 6)

    def check_clash(self, facts, formula, sign_only):
        with self.assertRaises(Clash):
            facts.verdict(formula, sign_only=sign_only)
        for wanted in (True, False):
            with self.assertRaises(Clash):
                facts.model(formula, wanted, sign_only=sign_only)

    def test_clashes(self):
        for texts in CLASHING:
            for text in ("0", "1", "p", "-p", "pq + qp"):
                for sign_only in (False, True):
                    self.check_clash(facts_of(**texts), read(text), sign_only)
            for text in NOT_MIRRORS:
                self.check_clash(facts_of(**texts), read(text), False)

    def test_not_mirror_comes_before_clash(self):
        for texts in CLASHING + [{}, {"not_nothing": ["pq"]}]:
            facts = facts_of(**texts)
            for text in NOT_MIRRORS:
                with self.assertRaises(NotMirror):
                    facts.verdict(read(text), sign_only=True)
                for wanted in (True, False):
                    with self.assertRaises(NotMirror):
                        facts.model(read(text), wanted, sign_only=True)

    def test_claims_that_are_not_their_own_mirror(self):
        self.assertEqual(Facts().verdict(read("pq")), "open")
        self.assertEqual(facts_of(not_nothing=["pq"]).verdict(read("pqp")), "barred")
        self.assertEqual(facts_of(nothing=["pq"]).verdict(read("qp")), "sure")
        self.assertEqual(facts_of(nothing=["pq"]).verdict(formula=read("pqpq"), sign_only=False), "sure")

    def test_all_kinds_of_parts(self):
        facts = facts_of(nothing=["-p + 2 pqpqp"], not_nothing=["p"])
        parts = facts.model(read("p"), False)
        self.assertEqual([part[0] for part in parts], ["root"])
        self.assertTrue(Root(*parts[0][1:]) == HALF_ROOT)
        facts = facts_of(never_negative=["2 p - 3 pqp", "-p + 2 pqp"], not_nothing=["p", "1 - q"], somewhere_negative=["-q"])
        parts = facts.model(read("p - 3 pqpqp"), False, sign_only=True)
        self.check_model(parts, facts, read("p - 3 pqpqp"), False, True)
        self.assertIn("plane", [part[0] for part in parts])
        parts = facts_of(nothing=["pq - qp"]).model(formula=read("pq"), holds=False, sign_only=False)
        self.assertEqual(parts, [("line", "both")])

    def test_models_of_many_parts(self):
        facts = facts_of(nothing=["p - 5 pqp + 6 pqpqp"], not_nothing=["p - 2 pqp", "p - 3 pqp", "1 - q"])
        for wanted in (True, False):
            for text in ("p - q", "-1 + p + q", "p - 3 pqp"):
                parts = facts.model(read(text), wanted, sign_only=True)
                self.assertEqual(parts is None, facts.verdict(read(text), sign_only=True) == ("barred" if wanted else "sure"))
                if parts is not None:
                    self.check_model(parts, facts, read(text), wanted, True)

    def test_told_lists_are_new(self):
        facts = facts_of(not_nothing=["p"])
        told = facts.model(read("q"), True)
        told.append("x")
        self.assertEqual(len(facts.model(read("q"), True)), len(told) - 1)

    def test_only_by_name(self):
        with self.assertRaises(TypeError):
            Facts().verdict(read("p"), True)
        with self.assertRaises(TypeError):
            Facts().model(read("p"), True, True)


if __name__ == "__main__":
    unittest.main()

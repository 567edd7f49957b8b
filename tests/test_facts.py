"""Points 40 to 42 and 45: facts, the lines and angle numbers that they allow, and facts that clash."""

import random
import unittest
from fractions import Fraction

from filterorders.bounds import shape
from filterorders.errors import BadNumber, BadStretch, NotMirror
from filterorders.facts import Facts
from filterorders.formulas import Formula
from filterorders.polynomials import Polynomial
from filterorders.ratios import Ratio, sign
from filterorders.roots import Root, cells
from filterorders.tables import line, plane
from tests.test_bounds import NOT_MIRRORS
from tests.test_questions import LINE_NAMES
from tests.tools import BIG, NOT_NUMBERS, PRIME
from tests.tools import fraction, fraction_rows, is_never_negative, is_nothing, polynomial, ratio, read, some_formula, value_at

LISTS = ["nothing", "never_negative", "not_nothing", "somewhere_negative"]
LOW, HIGH = (0, False), (1, False)
HALF_ROOT = Root(Polynomial([-1, 0, 2]), 0, 1)
GOLDEN = Root(Polynomial([-1, 1, 1]), 0, 1)


def facts_of(**texts):
    return Facts(**{name: [read(text) for text in items] for name, items in texts.items()})


def holds_on_line(formula, name, sign_only):
    rows = fraction_rows(formula, *line(name))
    return is_never_negative(rows) if sign_only else is_nothing(rows)


def holds_at(formula, turn, sign_only):
    """For an angle number that is a Fraction."""
    rows = value_at(formula, turn)
    return is_never_negative(rows) if sign_only else is_nothing(rows)


def nothing_shape(formula):
    """A polynomial that is 0 exactly where the formula is nothing: the trace of its square."""
    return shape(formula.mirror() * formula)[0]


def holds_at_root(formula, root, sign_only):
    if sign_only:
        return all(root.sign_of(part) >= 0 for part in shape(formula))
    return root.sign_of(nothing_shape(formula)) == 0


def spots(rules):
    """A line, a Fraction or a Root for each kind of part that the facts can tell from others."""
    parts = [part for formula, sign_only in rules for part in (shape(formula) if sign_only else [nothing_shape(formula)])]
    found = list(LINE_NAMES)
    for cell in cells(parts, 0, 1):
        found.append(fraction(cell[1]) if cell[0] == "between" else cell[1])
    return found


def holds(formula, spot, sign_only):
    if isinstance(spot, str):
        return holds_on_line(formula, spot, sign_only)
    return holds_at_root(formula, spot, sign_only) if isinstance(spot, Root) else holds_at(formula, spot, sign_only)


def rules_of(facts):
    return [(formula, False) for formula in facts.nothing] + [(formula, True) for formula in facts.never_negative]


def denials_of(facts):
    return [(formula, False) for formula in facts.not_nothing] + [(formula, True) for formula in facts.somewhere_negative]


def is_allowed(facts, spot):
    return all(holds(formula, spot, sign_only) for formula, sign_only in rules_of(facts))


def has_model(rules, denials):
    """Whether two filters have some facts, straight from what point 42 says."""
    found = [spot for spot in spots(rules + denials) if all(holds(formula, spot, sign_only) for formula, sign_only in rules)]
    return bool(found) and all(any(not holds(formula, spot, sign_only) for spot in found) for formula, sign_only in denials)


def own_mirror(source, **more):
    made = some_formula(source, source.randint(1, 4), lambda from_: Fraction(from_.randint(-3, 3)), **more)
    return made + made.mirror()


def on_p(*numbers):
    """A formula whose value on a plane is p times a polynomial in the angle number."""
    return Formula(dict(zip(["p", "pqp", "pqpqp"], numbers)))


def some_facts(source):
    lists = {name: [] for name in LISTS}
    for _ in range(source.randint(0, 4)):
        name = source.choice(LISTS)
        kind = source.randint(0, 3)
        if kind == 0:
            # A polynomial with two roots in reach, maybe the same ones.
            one, two = [Fraction(source.randint(-1, 4), source.randint(1, 4)) for _ in range(2)]
            factor = source.choice([-1, 1, 1])
            lists[name].append(on_p(*[ratio(factor * number) for number in (one * two, -one - two, 1)]))
        elif kind == 1 and name in ("nothing", "not_nothing"):
            lists[name].append(some_formula(source, 3, lambda from_: Fraction(from_.randint(-2, 2)), longest=3))
        else:
            lists[name].append(own_mirror(source, longest=3))
    return Facts(**lists)


# Facts that are nothing, and those that are never negative; what they allow.
KNOWN = [
    ([], [], LINE_NAMES, [(LOW, HIGH)]),
    (["0"], ["0", "1", "p"], LINE_NAMES, [(LOW, HIGH)]),
    (["1"], [], [], []),
    ([], ["-1"], [], []),
    (["p"], [], ["q", "none"], []),
    (["q"], [], ["p", "none"], []),
    (["1 - p"], [], ["both", "p"], []),
    (["p", "q"], [], ["none"], []),
    (["p", "1 - q"], [], ["q"], []),
    (["p - q"], [], ["both", "none"], []),
    (["1 - p - q"], [], ["p", "q"], []),
    (["pq"], [], ["p", "q", "none"], []),
    (["pq - qp"], [], LINE_NAMES, []),
    (["pqp"], [], ["p", "q", "none"], []),
    (["1 - p", "p"], [], [], []),
    (["-p + 2 pqp"], [], ["q", "none"], [((Ratio(1, 2), True), (Ratio(1, 2), True))]),
    (["-q + 2 qpq"], [], ["p", "none"], [((Ratio(1, 2), True), (Ratio(1, 2), True))]),
    (["pq - 2 pqpq"], [], ["p", "q", "none"], [((Ratio(1, 2), True), (Ratio(1, 2), True))]),
    (["pqp - 2 pqpqp"], [], ["p", "q", "none"], [((Ratio(1, 2), True), (Ratio(1, 2), True))]),
    (["-p + 2 pqpqp"], [], ["q", "none"], [((HALF_ROOT, True), (HALF_ROOT, True))]),
    (["-p + pqp + pqpqp"], [], ["q", "none"], [((GOLDEN, True), (GOLDEN, True))]),
    (["-p + 2 pqpqp", "-p + 2 pqp"], [], ["q", "none"], []),
    (["p - 5 pqp + 6 pqpqp"], [], ["q", "none"], [((Ratio(1, 3), True),) * 2, ((Ratio(1, 2), True),) * 2]),
    (["p - 5 pqp + 6 pqpqp", "-p + 2 pqp"], [], ["q", "none"], [((Ratio(1, 2), True),) * 2]),
    (["3 - 4 p - 4 q + 4 pq + 4 qp"], [], [], [((Ratio(1, 4), True),) * 2]),
    (["1 - 2 p - 2 q + 2 pq + 2 qp"], [], [], [((Ratio(1, 2), True),) * 2]),
    ([], ["-p + 2 pqp"], ["both", "q", "none"], [((Ratio(1, 2), True), HIGH)]),
    ([], ["p - 2 pqp"], ["p", "q", "none"], [(LOW, (Ratio(1, 2), True))]),
    ([], ["-p + 2 pqp", "p - 2 pqp"], ["q", "none"], [((Ratio(1, 2), True),) * 2]),
    ([], ["-p + 2 pqpqp"], ["both", "q", "none"], [((HALF_ROOT, True), HIGH)]),
    ([], ["p - 2 pqpqp"], ["p", "q", "none"], [(LOW, (HALF_ROOT, True))]),
    ([], ["p - 5 pqp + 6 pqpqp"], LINE_NAMES, [(LOW, (Ratio(1, 3), True)), ((Ratio(1, 2), True), HIGH)]),
    ([], ["-p + 5 pqp - 6 pqpqp"], ["q", "none"], [((Ratio(1, 3), True), (Ratio(1, 2), True))]),
    ([], ["p - 2 pqpqp", "-p + 3 pqp"], ["q", "none"], [((Ratio(1, 3), True), (HALF_ROOT, True))]),
    ([], ["-p + 4 pqp - 4 pqpqp"], ["q", "none"], [((Ratio(1, 2), True),) * 2]),
    ([], ["p - 4 pqp + 4 pqpqp"], LINE_NAMES, [(LOW, HIGH)]),
    ([], ["p - 4 pqp + 4 pqpqp", "1 - 2 p - 2 q + 2 pq + 2 qp"], ["both", "none"], [((Ratio(1, 2), True), HIGH)]),
    ([], ["-p", "p"], ["q", "none"], []),
    ([], ["p - q"], ["both", "p", "none"], []),
    ([], ["p", "q", "1 - p", "1 - q"], LINE_NAMES, [(LOW, HIGH)]),
    ([], ["6/25 + pq + qp"], LINE_NAMES, [(LOW, (Ratio(4, 25), True)), ((Ratio(9, 25), True), HIGH)]),
    ([], ["1/4 + pq + qp"], LINE_NAMES, [(LOW, HIGH)]),
    ([], ["-1/4 - pq - qp"], [], []),
    ([], ["1 - p - q + pq + qp"], LINE_NAMES, [(LOW, HIGH)]),
    ([], ["-1 + p + q"], LINE_NAMES[:3], []),
    ([], ["3/2 - p - q"], LINE_NAMES[1:], [(LOW, (Ratio(1, 4), True))]),
    (["-p + 2 pqp"], ["-p + 2 pqpqp"], ["q", "none"], []),
    (["-p + 2 pqp"], ["p - 2 pqpqp", "3/4 p - pqp"], ["q", "none"], [((Ratio(1, 2), True),) * 2]),
    (["p - 5 pqp + 6 pqpqp"], ["2 p - 5 pqp"], ["q", "none"], [((Ratio(1, 3), True),) * 2]),
]


class FactsTest(unittest.TestCase):
    def test_each_list_alone_and_all_together(self):
        formulas = {"nothing": [read("pq"), read("0")], "never_negative": [read("p - q")], "not_nothing": [read("pq - qp")]}
        formulas["somewhere_negative"] = [read("-p"), read("pq + qp")]
        for name in LISTS:
            for given in (formulas[name], tuple(formulas[name]), formulas[name][:1]):
                facts = Facts(**{name: given})
                for other in LISTS:
                    found = getattr(facts, other)
                    self.assertIsInstance(found, tuple)
                    self.assertEqual(found, tuple(given) if other == name else ())
        facts = Facts(**formulas)
        self.assertEqual([getattr(facts, name) for name in LISTS], [tuple(formulas[name]) for name in LISTS])

    def test_no_facts(self):
        for facts in (Facts(), Facts(nothing=[], never_negative=(), not_nothing=[], somewhere_negative=[])):
            self.assertEqual([getattr(facts, name) for name in LISTS], [()] * 4)
            self.assertIs(facts.clashes(), False)

    def test_lists_are_copied(self):
        given = [read("pq - qp")]
        facts = Facts(nothing=given, not_nothing=given)
        given.append(read("1"))
        self.assertEqual((facts.nothing, facts.not_nothing), ((read("pq - qp"),), (read("pq - qp"),)))
        self.assertEqual(facts.lines(), LINE_NAMES)
        for name in ("lines", "stretches"):
            getattr(Facts(), name)().append("x")
            told = getattr(facts, name)()
            told.append("x")
            self.assertEqual(len(getattr(facts, name)()), len(told) - 1)

    def test_the_properties_cannot_be_set(self):
        for name in LISTS:
            with self.assertRaises(AttributeError):
                setattr(Facts(), name, ())

    def test_only_by_name(self):
        with self.assertRaises(TypeError):
            Facts([read("p")])

    def test_not_mirror(self):
        for text in NOT_MIRRORS:
            for name in ("never_negative", "somewhere_negative"):
                for items in ([text], ["p", text], [text, "q", text]):
                    with self.subTest(text=text, name=name), self.assertRaises(NotMirror):
                        facts_of(**{name: items})
            for name in ("nothing", "not_nothing"):
                self.assertEqual(getattr(facts_of(**{name: [text, "p"]}), name), (read(text), read("p")))
        with self.assertRaises(NotMirror):
            facts_of(nothing=["1"], never_negative=["p"], somewhere_negative=["pq"])


class AllowedTest(unittest.TestCase):
    def check_stretches(self, facts, wanted):
        found = facts.stretches()
        self.assertIsInstance(found, list)
        self.assertEqual(len(found), len(wanted))
        for told, ((first, has_first), (last, has_last)) in zip(found, wanted):
            self.assertIsInstance(told, tuple)
            self.check_end(told[0], first)
            self.check_end(told[2], last)
            self.assertEqual((told[1], told[3]), (has_first, has_last))
            self.assertEqual((told[1] is has_first, told[3] is has_last), (True, True))

    def check_end(self, end, wanted):
        if isinstance(wanted, int):
            self.assertIsInstance(end, Ratio)
            self.assertEqual(end, wanted)
        else:
            self.assertIsInstance(end, Root)
            self.assertTrue(end == wanted if isinstance(wanted, Root) else end.against(wanted) == 0)

    def test_known_facts(self):
        for nothing, never_negative, lines, wanted in KNOWN:
            with self.subTest(nothing=nothing, never_negative=never_negative):
                facts = facts_of(nothing=nothing, never_negative=never_negative)
                self.assertEqual(facts.lines(), lines)
                self.check_stretches(facts, wanted)
                self.assertIs(facts.clashes(), not lines and not wanted)

    def test_known_facts_are_what_planes_show(self):
        for nothing, never_negative, _, _ in KNOWN:
            facts = facts_of(nothing=nothing, never_negative=never_negative)
            for turn in [Fraction(at, 60) for at in range(1, 60)] + [Fraction(4, 25), Fraction(9, 25), Fraction(71, 100)]:
                self.assertIs(facts.allows(ratio(turn)), is_allowed(facts, turn))

    def test_what_is_denied_allows_all(self):
        facts = facts_of(not_nothing=["p", "pq"], somewhere_negative=["p - q", "-1"])
        self.assertEqual(facts.lines(), LINE_NAMES)
        self.check_stretches(facts, [(LOW, HIGH)])
        self.assertIs(facts.allows(Ratio(1, 2)), True)

    def test_a_single_number_is_told_by_the_same_root_twice(self):
        for text in ("-p + 2 pqp", "-p + 2 pqpqp"):
            (first, has_first, last, has_last), = facts_of(nothing=[text]).stretches()
            self.assertTrue(first == last)
            self.assertEqual((has_first, has_last), (True, True))

    def test_any_facts(self):
        source = random.Random(42)
        for _ in range(120):
            facts = some_facts(source)
            self.assertEqual(facts.lines(), [name for name in LINE_NAMES if is_allowed(facts, name)])
            stretches = facts.stretches()
            turns = [Fraction(at, 48) for at in range(1, 48)] + [spot for spot in spots(rules_of(facts)) if isinstance(spot, Fraction)]
            for turn in turns:
                allowed = is_allowed(facts, turn)
                self.assertIs(facts.allows(ratio(turn)), allowed)
                self.assertIs(any(self.holds_number(stretch, ratio(turn)) for stretch in stretches), allowed)
            for spot in spots(rules_of(facts)):
                if isinstance(spot, Root):
                    self.assertIs(any(self.holds_root(stretch, spot) for stretch in stretches), is_allowed(facts, spot))
            self.check_order(stretches)

    def holds_number(self, stretch, number):
        first, has_first, last, has_last = stretch
        above = first.against(number) if isinstance(first, Root) else sign(first - number)
        below = last.against(number) if isinstance(last, Root) else sign(last - number)
        return (above < 0 or (above == 0 and has_first)) and (below > 0 or (below == 0 and has_last))

    def holds_root(self, stretch, root):
        first, has_first, last, has_last = stretch
        above = isinstance(first, Ratio) or first < root or (first == root and has_first)
        below = isinstance(last, Ratio) or root < last or (last == root and has_last)
        return above and below

    def check_order(self, stretches):
        """Ascending, and no two of them could be one."""
        for at, (first, has_first, last, has_last) in enumerate(stretches):
            if isinstance(first, Ratio):
                self.assertEqual((at, first == 0, has_first), (0, True, False))
            else:
                self.assertEqual((first.against(0), first.against(1)), (1, -1))
            if isinstance(last, Ratio):
                self.assertEqual((at, last == 1, has_last), (len(stretches) - 1, True, False))
            else:
                self.assertEqual((last.against(0), last.against(1)), (1, -1))
            if isinstance(first, Root) and isinstance(last, Root):
                self.assertTrue(first < last or (first == last and has_first and has_last))
            if at > 0:
                before, has_before = stretches[at - 1][2:]
                self.assertTrue(before < first or (before == first and not has_before and not has_first))

    def test_angle_numbers_of_planes(self):
        facts = facts_of(nothing=["-p + 25/9 pqp"], never_negative=["p + q - pq - qp"])
        self.assertIs(facts.allows(fraction_to_ratio(plane(Ratio(1, 2)))), True)
        self.assertIs(facts.allows(fraction_to_ratio(plane(Ratio(1, 3)))), False)

    def test_allows_at_ends(self):
        facts = facts_of(never_negative=["-p + 5 pqp - 6 pqpqp"])
        tiny = Ratio(1, BIG)
        for number, allowed in ((Ratio(1, 3), True), (Ratio(1, 2), True), (Ratio(1, 3) - tiny, False), (Ratio(1, 2) + tiny, False)):
            self.assertIs(facts.allows(number), allowed)
        self.assertIs(facts.allows(number=Ratio(1, 3) + tiny), True)
        self.assertIs(Facts().allows(tiny), True)
        self.assertIs(Facts().allows(Ratio(BIG, PRIME * 100)), True)

    def test_allows_with_wrong_values(self):
        for facts in (Facts(), facts_of(nothing=["1"]), facts_of(not_nothing=["0"])):
            for given in NOT_NUMBERS + ["1/2", "p", Formula({}), polynomial(1), HALF_ROOT]:
                with self.subTest(given=given), self.assertRaises(BadNumber) as caught:
                    facts.allows(given)
                self.assertIs(caught.exception.given, given)
            for number in (0, 1, -1, 2, Ratio(0), Ratio(1), Ratio(-1, 2), Ratio(3, 2), Ratio(-1, BIG), Ratio(BIG, BIG - 1), BIG, -BIG):
                with self.subTest(number=number), self.assertRaises(BadStretch):
                    facts.allows(number)


def fraction_to_ratio(pair):
    """The angle number of a plane."""
    return pair[1].rows()[0][0]


class ClashesTest(unittest.TestCase):
    def test_known_facts(self):
        clashing = [
            dict(nothing=["1"]), dict(never_negative=["-1"]), dict(not_nothing=["0"]), dict(somewhere_negative=["0"]),
            dict(somewhere_negative=["1"]), dict(somewhere_negative=["p"]), dict(somewhere_negative=["1/4 + pq + qp"]),
            dict(nothing=["p"], not_nothing=["p"]), dict(nothing=["p"], not_nothing=["pq"]), dict(nothing=["p", "1 - p"]),
            dict(nothing=["pq - qp"], not_nothing=["pq - pqp"]), dict(never_negative=["p - q"], somewhere_negative=["p - q"]),
            dict(never_negative=["p - q"], not_nothing=["q - pq"]), dict(nothing=["-p + 2 pqp"], not_nothing=["p - 4 pqp + 4 pqpqp"]),
            dict(nothing=["-p + 2 pqp"], not_nothing=["pq", "pq - 2 pqpq"]), dict(nothing=["-p + 2 pqpqp"], not_nothing=["pq - 2 pqpqpq"]),
            dict(never_negative=["-p + 2 pqp"], somewhere_negative=["-1/2 p + pqp"]), dict(nothing=["pq"], somewhere_negative=["pq + qp"]),
            dict(never_negative=["-p + 2 pqp", "1/3 p - pqp"], not_nothing=["p"]), dict(nothing=["-p + pqp + pqpqp"], somewhere_negative=["13 p - 21 pqp"]),
        ]
        for texts in clashing:
            with self.subTest(texts=texts):
                self.assertIs(facts_of(**texts).clashes(), True)
        fitting = [
            dict(), dict(not_nothing=["1"]), dict(not_nothing=["p - q", "pq", "1 - p - q", "pq - qp"]), dict(somewhere_negative=["-1", "-p"]),
            dict(somewhere_negative=["6/25 + pq + qp"]), dict(nothing=["p"], not_nothing=["q"]), dict(nothing=["pq - qp"], not_nothing=["pq"]),
            dict(never_negative=["p - q"], not_nothing=["p - q"]), dict(nothing=["-p + 2 pqp"], not_nothing=["p"]),
            dict(nothing=["-p + 2 pqpqp"], not_nothing=["p - 2 pqp", "pqp"]), dict(nothing=["-p + 2 pqp"], somewhere_negative=["1/3 p - pqp"]),
            dict(never_negative=["-p + 2 pqp", "1/3 p - pqp"]), dict(nothing=["-p + pqp + pqpqp"], somewhere_negative=["8 p - 13 pqp", "-5 p + 8 pqp"]),
            dict(nothing=["p - 5 pqp + 6 pqpqp"], not_nothing=["p - 2 pqp", "p - 3 pqp"]),
        ]
        for texts in fitting:
            with self.subTest(texts=texts):
                self.assertIs(facts_of(**texts).clashes(), False)

    def test_any_facts(self):
        source = random.Random(43)
        seen = set()
        for _ in range(150):
            facts = some_facts(source)
            found = facts.clashes()
            self.assertIs(found, not has_model(rules_of(facts), denials_of(facts)))
            seen.add(found)
        self.assertEqual(seen, {True, False})


if __name__ == "__main__":
    unittest.main()

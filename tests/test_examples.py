"""The examples of the interface, with what the document shows for them."""

import unittest

from filterorders.errors import BadRoot, ByZero
from filterorders.polynomials import Polynomial, common, single
from filterorders.ratios import Ratio, as_ratio, sign
from filterorders.roots import Root, angle, cells, nowhere_below, root_count, roots


class ExamplesTest(unittest.TestCase):
    def test_ratios(self):
        half = Ratio(-3, -6)
        found = half.top, half.bottom, (half + 2).text(), half.over(Ratio(-3, 4)).text()
        found += half < 1, half == Ratio(1, 2), Ratio(4, 2) == 2
        self.assertEqual(found, (1, 2, "5/2", "-2/3", True, True, True))
        self.assertEqual((Ratio.read("-7/3").top, sign(Ratio(-1, 9)), as_ratio(5).text()), (-7, -1, "5"))
        with self.assertRaises(ByZero):
            half.over(0)

    def test_polynomials(self):
        one = Polynomial([2, -3, 1])
        other = Polynomial([-1, Ratio(1, 2), 0, 0])
        found = len(one), len(other), one.worth(Ratio(1, 2)).text(), [term.text() for term in one.slope().terms()]
        found += ((one * other).worth(3) == 1,)
        self.assertEqual(found, (3, 2, "3/4", ["-3", "2"], True))
        quotient, rest = one.parted(other)
        found = rest == Polynomial([]), common(one, other) == Polynomial([-2, 1]), single(one * one * other) == one
        self.assertEqual(found, (True, True, True))
        self.assertEqual([term.text() for term in quotient.terms()], ["-2", "2"])

    def test_roots(self):
        square = Polynomial([-1, 0, 2])
        root = Root(square, 0, 1)
        found = root_count(square, -1, 1), root.against(Ratio(7, 10)), root.sign_of(Polynomial([0, -3, 0, 6]))
        found += (root.narrowed(Ratio(1, 100)) == root,)
        self.assertEqual(found, (2, 1, 0, True))
        kinds = [cell[0] for cell in cells([square, Polynomial([-1, 3])], 0, 1)]
        self.assertEqual(kinds, ["between", "at", "between", "at", "between"])
        self.assertEqual(roots(Polynomial([0, -1, 3]), 0, 1)[1].against(Ratio(1, 3)), 0)
        found = nowhere_below(Polynomial([1, -4, 4])), nowhere_below(Polynomial([1, -4, 3])), angle(Ratio(1, 2)).text()
        self.assertEqual(found, (True, False, "9/25"))
        with self.assertRaises(BadRoot):
            Root(square, -1, 1)


if __name__ == "__main__":
    unittest.main()

"""The examples of the document."""

import unittest

from stretchprices.best import best
from stretchprices.books import book, is_lots
from stretchprices.exact import exact, least_exact
from stretchprices.leads import ahead, lead
from stretchprices.machines import Machine, ticks
from stretchprices.measured import sure
from stretchprices.meters import meter_ticks
from stretchprices.odd import odd
from stretchprices.orders import quickest
from stretchprices.programs import extremes
from stretchprices.rates import one_number, rate
from stretchprices.rigs import Rig, machine_of
from stretchprices.stretches import stretches
from stretchprices.turns import turns
from stretchprices.webs import pieces, places

m = Machine("ab", 1, ((((1, 0),), ((1, 1),)), (((2, 0),), ((1, 1),))))
n = Machine("ab", 1, ((((1, 0),), ((1, 0),)),))
x = Machine("a", 2, ((((1, 1), (2, 0)),), (((9, 0), (1, 0)),)))


class ExamplesTest(unittest.TestCase):

    def test_the_machines(self):
        self.assertEqual((m.rows, m.answers, m.size), ("ab", 1, 2))
        self.assertEqual((n.rows, n.answers, n.size), ("ab", 1, 1))
        self.assertEqual((x.rows, x.answers, x.size), ("a", 2, 2))

    def test_e01(self):
        self.assertEqual(ticks(m, ("aba", (0, 0, 0))), 4)

    def test_e02(self):
        self.assertEqual(stretches("aba", 2), ["^a", "ab", "ba"])

    def test_e03(self):
        self.assertEqual(places(m, 2), [(0, "^"), (0, "a"), (1, "b")])
        self.assertEqual(pieces(m, 2), [(1, 2)])

    def test_e04(self):
        self.assertIsNone(book(m, 1))

    def test_e05(self):
        one = {((0, ""), "b", 0): 1, ((1, ""), "a", 0): 1}
        other = {((0, ""), "a", 0): 1, ((1, ""), "b", 0): 1}
        self.assertIs(is_lots(m, 1, (one, other)), True)

    def test_e06(self):
        self.assertEqual(exact(m, 2).table["ba"], (2, 1))
        self.assertEqual(least_exact(m), 2)

    def test_e07(self):
        self.assertEqual(best(m, 2)[0], (0, 1))

    def test_e08(self):
        self.assertEqual(lead(m, 1, 0)[:2], ("most", 1))
        self.assertEqual(ahead(m, n)[0], "round")

    def test_e09(self):
        self.assertEqual(rate(m, n)[0], (3, 2))
        self.assertEqual(rate(n, m)[0], (1, 1))
        self.assertEqual(one_number(m, n)[0], "two")

    def test_e10(self):
        self.assertEqual(odd(x)[0][0], "aa")

    def test_e11(self):
        self.assertIs(machine_of(Rig("ab", 1, (1, 1), (("gap", "b", "a", 1),))) == m, True)

    def test_e12(self):
        self.assertEqual(sure("ab", 1, [("aab", (4, 1)), ("ab", (3, 1))], "a"), ("sure", (1, 1), ((1, 1), (-1, 1))))

    def test_e13(self):
        self.assertEqual(extremes(m, (("times", 2, 3, (("rows", "ba"),)),)), (6, 9))

    def test_e14(self):
        self.assertEqual(turns(m, meter_ticks(m)), 1)

    def test_e15(self):
        self.assertEqual(quickest(m, "aba", []), (3, "aab"))


if __name__ == "__main__":
    unittest.main()

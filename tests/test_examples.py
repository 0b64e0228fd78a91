"""The examples of the document."""

import unittest

from stretchprices.machines import Machine, ticks
from stretchprices.rigs import Rig, machine_of

m = Machine("ab", 1, ((((1, 0),), ((1, 1),)), (((2, 0),), ((1, 1),))))
n = Machine("ab", 1, ((((1, 0),), ((1, 0),)),))
x = Machine("a", 2, ((((1, 1), (2, 0)),), (((9, 0), (1, 0)),)))


class ExamplesTest(unittest.TestCase):

    def test_the_machines(self):
        self.assertEqual((m.rows, m.answers, m.size), ("ab", 1, 2))
        self.assertEqual((n.rows, n.answers, n.size), ("ab", 1, 1))
        self.assertEqual((x.rows, x.answers, x.size), ("a", 2, 2))

    def test_e01(self):
        self.assertEqual(ticks(m, ("aba", (0, 0, 0))), 4)

    def test_e11(self):
        self.assertIs(machine_of(Rig("ab", 1, (1, 1), (("gap", "b", "a", 1),))) == m, True)


if __name__ == "__main__":
    unittest.main()

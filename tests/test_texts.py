"""Point 14.1: texts of machines and of prices."""

import unittest
from fractions import Fraction

from stretchprices.machines import Machine, smallest
from stretchprices.rigs import Rig, machine_of
from stretchprices.stretches import Prices, all_stretches
from stretchprices.texts import machine_text, prices_text
from helpers import M, N, X, drawn_machine, drawn_prices, pair

GREAT = 10 ** 59 + 3


class MachineTextTest(unittest.TestCase):

    def test_written_out(self):
        self.assertEqual(machine_text(M), "machine ab 1\nat 0\na 1 0\nb 1 1\nat 1\na 2 0\nb 1 1\n")
        self.assertEqual(machine_text(N), "machine ab 1\nat 0\na 1 0\nb 1 0\n")
        self.assertEqual(machine_text(X), "machine a 2\nat 0\na 1 1 2 0\nat 1\na 9 0 1 0\n")

    def test_one_row_and_four(self):
        self.assertEqual(machine_text(Machine("z", 1, ((((99, 0),),),))), "machine z 1\nat 0\nz 99 0\n")
        four = Machine("adxz", 1, ((((1, 0),), ((20, 0),), ((3, 0),), ((99, 0),)),))
        self.assertEqual(machine_text(four), "machine adxz 1\nat 0\na 1 0\nd 20 0\nx 3 0\nz 99 0\n")

    def test_one_to_three_answers(self):
        three = Machine("ab", 3, ((((1, 0), (2, 1), (3, 0)), ((4, 1), (5, 0), (6, 1))),
                                  (((7, 0), (8, 0), (9, 0)), ((10, 1), (11, 1), (12, 1)))))
        self.assertEqual(machine_text(three), "machine ab 3\nat 0\na 1 0 2 1 3 0\nb 4 1 5 0 6 1\n"
                                              "at 1\na 7 0 8 0 9 0\nb 10 1 11 1 12 1\n")

    def test_twelve_standings(self):
        moves = tuple((((here + 1, (here + 5) % 12),),) for here in range(12))
        wanted = "machine k 1\n" + "".join(f"at {here}\nk {here + 1} {(here + 5) % 12}\n" for here in range(12))
        self.assertEqual(machine_text(Machine("k", 1, moves)), wanted)

    def test_more_than_twelve_standings(self):
        rig = Rig("abcd", 2, (5, 6, 7, 8), (("kept", (0, 1, 2, 3), 2, 10), ("guess", "abc", 1, 3)))
        for machine in (machine_of(rig), smallest(machine_of(rig))):
            self.assertGreater(machine.size, 12)
            lines = ["machine abcd 2"]
            for here in range(machine.size):
                lines.append(f"at {here}")
                for at, row in enumerate("abcd"):
                    (spent, there), (other, beside) = machine.moves[here][at]
                    lines.append(f"{row} {spent} {there} {other} {beside}")
            self.assertEqual(machine_text(machine), "\n".join(lines) + "\n")

    def test_equal_machines_have_equal_texts(self):
        for seed in range(20):
            self.assertEqual(machine_text(drawn_machine(seed)), machine_text(drawn_machine(seed)))
            self.assertIs(type(machine_text(drawn_machine(seed))), str)


class PricesTextTest(unittest.TestCase):

    def test_written_out(self):
        one = Prices("ab", 1, {"b": (-3, 2), "a": (1, 1)})
        self.assertEqual(prices_text(one), "prices ab 1\na 1\nb -3/2\n")
        two = Prices("ab", 2, {"bb": (0, 1), "ba": (-1, 1), "^a": (10, 3), "^b": (-10, 3), "aa": (7, 1), "ab": (1, 20)})
        self.assertEqual(prices_text(two), "prices ab 2\n^a 10/3\n^b -10/3\naa 7\nab 1/20\nba -1\nbb 0\n")
        self.assertEqual(prices_text(Prices("z", 3, {"^z": (1, 2), "^zz": (-5, 1), "zzz": (0, 1)})),
                         "prices z 3\n^z 1/2\n^zz -5\nzzz 0\n")

    def test_great_fractions(self):
        great = Prices("ab", 1, {"a": (GREAT, GREAT - 1), "b": (-GREAT, 1)})
        self.assertEqual(prices_text(great), f"prices ab 1\na {GREAT}/{GREAT - 1}\nb -{GREAT}\n")

    def test_numbers_of_any_size(self):
        # Python itself refuses to write numbers of more than 4300 figures.
        for figures in (58, 59, 60, 61, 119, 120, 121, 4299, 4300, 4301, 10000):
            top = 10 ** figures + 7
            wanted = "1" + "0" * (figures - 1) + "7"
            for sign, mark in ((1, ""), (-1, "-")):
                prices = Prices("a", 1, {"a": (sign * top, 1)})
                self.assertEqual(prices_text(prices), f"prices a 1\na {mark}{wanted}\n")
                prices = Prices("a", 1, {"a": (sign, top)})
                self.assertEqual(prices_text(prices), f"prices a 1\na {mark}1/{wanted}\n")

    def test_drawn(self):
        for seed in range(12):
            rows = ("a", "ab", "abc", "bdxz")[seed % 4]
            prices = drawn_prices(seed, rows, 1 + seed % 3)
            table = prices.table
            lines = [f"prices {rows} {prices.width}"]
            for name in all_stretches(rows, prices.width):
                value = Fraction(*table[name])
                lines.append(f"{name} {value}")
                self.assertEqual(pair(value), table[name])
            self.assertEqual(prices_text(prices), "\n".join(lines) + "\n")

    def test_the_order_of_the_keys_means_nothing(self):
        prices = drawn_prices(3, "ab", 3)
        table = dict(reversed(list(prices.table.items())))
        self.assertEqual(prices_text(Prices("ab", 3, table)), prices_text(prices))


if __name__ == "__main__":
    unittest.main()

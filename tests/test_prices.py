"""Point 3.2: price lists."""

import random
import unittest

from stretchprices.stretches import Prices, all_stretches, price
from helpers import M, drawn_prices, odd_things, pair, raised, slow_price

NO_FRACTIONS = [(2, 2), (2, 4), (0, 2), (-3, 9), (1, 0), (0, 0), (1, -1), (-1, -1), (0, -1), (True, 1), (1, True),
                (False, 1), [1, 1], 1, 0, True, None, "1", (1,), (1, 1, 1), (), ("1", 1), (1, "1"), (None, 1),
                ((1, 1), 1), {1: 1}, b"11", range(1, 3)]


def bad(part):
    return "BadPrices", {"part": part}


def flat(rows, width, worth=(1, 1)):
    return {name: worth for name in all_stretches(rows, width)}


class PricesTest(unittest.TestCase):

    def test_let(self):
        for rows in ("a", "z", "by", "abc", "wxyz"):
            for width in (1, 2, 3):
                for worth in ((0, 1), (1, 1), (-1, 1), (10 ** 59, 1), (-7, 10 ** 59), (2, 3), (-3, 2)):
                    table = flat(rows, width, worth)
                    made = Prices(rows, width, table)
                    self.assertEqual((made.rows, made.width, made.table), (rows, width, table))

    def test_rows_and_widths(self):
        for rows in ["", "ba", "aa", "abcde", "A", "^", b"a", ("a",), None] + odd_things():
            self.assertEqual(raised(Prices, rows, 0, None), bad("rows"))
        for width in [0, 4, True, False, None, "1", (1,), 10 ** 59] + odd_things():
            self.assertEqual(raised(Prices, "ab", width, None), bad("width"))

    def test_names_of_the_table(self):
        for width in (1, 2, 3):
            right = flat("ab", width)
            for name in right:
                lacking = {key: right[key] for key in right if key != name}
                self.assertEqual(raised(Prices, "ab", width, lacking), bad("table"))
                for other in ("", "^", "c", "A", "^" + name, name + "a", name.upper(), None, 0, True, (name,), b"a"):
                    self.assertEqual(raised(Prices, "ab", width, {**lacking, other: (1, 1)}), bad("table"))
                    if other not in right:
                        self.assertEqual(raised(Prices, "ab", width, {**right, other: (1, 1)}), bad("table"))
            for other in (1, 2, 3):
                if other != width:
                    self.assertEqual(raised(Prices, "ab", width, flat("ab", other)), bad("table"))
            self.assertEqual(raised(Prices, "ab", width, flat("ac", width)), bad("table"))
            self.assertEqual(raised(Prices, "ab", width, flat("abc", width)), bad("table"))
            self.assertEqual(raised(Prices, "ab", width, {}), bad("table"))

    def test_fractions_of_the_table(self):
        for thing in NO_FRACTIONS + odd_things():
            for name in all_stretches("ab", 2):
                self.assertEqual(raised(Prices, "ab", 2, {**flat("ab", 2), name: thing}), bad("table"), thing)

    def test_other_tables(self):
        for table in odd_things() + [[("a", (1, 1))], (("a", (1, 1)),), ["a"], "a"]:
            if table != {"a": 1}:
                self.assertEqual(raised(Prices, "a", 1, table), bad("table"))

    def test_the_order_of_keys_means_nothing(self):
        table = drawn_prices(1).table
        backward = {name: table[name] for name in sorted(table, reverse=True)}
        self.assertEqual(Prices("ab", 2, table), Prices("ab", 2, backward))

    def test_tables_are_new(self):
        table = flat("a", 2)
        made = Prices("a", 2, table)
        table["^a"] = (5, 1)
        self.assertEqual(made.table, flat("a", 2))
        given = made.table
        given["aa"] = (9, 1)
        del given["^a"]
        self.assertEqual(made.table, flat("a", 2))
        self.assertEqual(price(made, "aaa"), (3, 1))
        self.assertIsNot(made.table, made.table)
        self.assertEqual(made, Prices("a", 2, flat("a", 2)))

    def test_a_refused_table_stays(self):
        table = {**flat("a", 2), "aa": [2, 4]}
        self.assertEqual(raised(Prices, "a", 2, table), bad("table"))
        self.assertEqual(table, {"^a": (1, 1), "aa": [2, 4]})

    def test_equality(self):
        made = Prices("ab", 1, {"a": (1, 2), "b": (3, 1)})
        self.assertTrue(made == Prices("ab", 1, {"b": (3, 1), "a": (1, 2)}))
        self.assertFalse(made != Prices("ab", 1, {"b": (3, 1), "a": (1, 2)}))
        for other in (Prices("ab", 1, {"a": (1, 2), "b": (3, 2)}), Prices("ac", 1, {"a": (1, 2), "c": (3, 1)}),
                      Prices("a", 1, {"a": (1, 2)}), Prices("ab", 2, flat("ab", 2))):
            self.assertFalse(made == other)
            self.assertTrue(made != other)
        self.assertFalse(Prices("a", 2, flat("a", 2)) == Prices("a", 3, flat("a", 3)))
        for thing in odd_things() + [made.table, ("ab", 1, made.table), M]:
            self.assertFalse(made == thing)
            self.assertTrue(made != thing)
            self.assertFalse(thing == made)


class PriceTest(unittest.TestCase):

    def test_examples(self):
        prices = Prices("ab", 2, {"^a": (1, 2), "^b": (0, 1), "aa": (1, 3), "ab": (-1, 6), "ba": (2, 1), "bb": (1, 1)})
        self.assertEqual(price(prices, ""), (0, 1))
        self.assertEqual(price(prices, "a"), (1, 2))
        self.assertEqual(price(prices, "ab"), (1, 3))
        self.assertEqual(price(prices, "abb"), (4, 3))
        self.assertEqual(price(prices, "bab"), (11, 6))
        self.assertEqual(price(prices, "aaaa"), (3, 2))
        self.assertEqual(price(prices, "b"), (0, 1))

    def test_sums_that_are_nothing_or_below(self):
        prices = Prices("ab", 1, {"a": (2, 3), "b": (-1, 3)})
        self.assertEqual(price(prices, "abb"), (0, 1))
        self.assertEqual(price(prices, "bbbb"), (-4, 3))
        self.assertEqual(price(prices, "bbb"), (-1, 1))
        self.assertEqual(price(prices, "aaa"), (2, 1))

    def test_drawn_sums(self):
        draw = random.Random(4)
        for seed in range(120):
            rows = "abcd"[:1 + seed % 4]
            prices = drawn_prices(seed, rows, 1 + seed % 3)
            for length in (0, 1, 2, 3, 17, 200):
                code = "".join(draw.choice(rows) for _ in range(length))
                self.assertEqual(price(prices, code), pair(slow_price(prices, code)))

    def test_great_numbers(self):
        primes = [10 ** 59 + k for k in (1, 3, 7, 9)]
        prices = Prices("abcd", 1, {row: (-(10 ** 59), it) for row, it in zip("abcd", primes)})
        for code in ("a", "dcba", "abcd" * 50):
            self.assertEqual(price(prices, code), pair(slow_price(prices, code)))

    def test_no_code(self):
        prices = drawn_prices(1, "bc")
        for code in ["a", "bd", "B", "b c", "^b", "bcb ", b"b", ("b",), ["b"], None, 0, True] + odd_things():
            if code != "":
                self.assertEqual(raised(price, prices, code), ("NoCode", {}), code)


if __name__ == "__main__":
    unittest.main()

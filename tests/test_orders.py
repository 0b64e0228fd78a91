"""Points 13.1 and 13.2: orders of codes, and which of them are quickest or cheapest."""

import itertools
import random
import unittest
from fractions import Fraction

from stretchprices.books import book
from stretchprices.bounds import gap
from stretchprices.orders import cheapest, orders, quickest, waste, worst
from stretchprices.rigs import Rig, machine_of
from stretchprices.stretches import Prices
from helpers import M, N, X, deep, drawn_machine, drawn_prices, odd_things, pair, raised, slow_price
from slow_books import made_machine
from slow_programs import walks


def slow_orders(code, befores):
    """All codes that come of setting the rows to the places, by the words of the document."""
    found = set()
    for dealt in itertools.permutations(range(len(code))):
        if all(dealt[i] < dealt[j] for i, j in befores):
            found.add("".join(row for _, row in sorted(zip(dealt, code))))
    return sorted(found)


def slow_worst(machine, code):
    return max(total for total, _ in walks(machine, code))


def drawn_befores(draw, many):
    pairs = [(i, j) for i in range(many) for j in range(i + 1, many)]
    return [draw.choice(pairs) for _ in range(draw.randint(0, 4))] if pairs else []


def cases(many, rows="ab", most=6):
    for seed in range(many):
        draw = random.Random(seed)
        code = "".join(draw.choice(rows) for _ in range(draw.randint(0, most)))
        yield seed, code, drawn_befores(draw, len(code))


class OrdersTest(unittest.TestCase):

    def test_example(self):
        self.assertIn("aab", orders("aba", [(0, 2)]))
        self.assertEqual(orders("aba", [(0, 2)]), ["aab", "aba", "baa"])

    def test_against_all_ways(self):
        few = 0
        for rows in ("a", "ab", "abcz"):
            for _, code, befores in cases(150, rows):
                found = orders(code, befores)
                self.assertEqual(found, slow_orders(code, befores))
                self.assertIs(type(found), list)
                self.assertEqual(found, orders(code, tuple(befores)))
                self.assertIn(code, found)
                few += len(found) < len(slow_orders(code, []))
        self.assertGreater(few, 100)

    def test_plain_ones(self):
        self.assertEqual(orders("", []), [""])
        self.assertEqual(orders("", ()), [""])
        self.assertEqual(orders("x", []), ["x"])
        self.assertEqual(orders("ba", []), ["ab", "ba"])
        self.assertEqual(orders("ba", [(0, 1)]), ["ba"])
        self.assertEqual(orders("aab", [(0, 2)]), ["aab", "aba"])
        # Of two like rows it counts which place each has, not which comes first.
        self.assertEqual(orders("aab", [(0, 2), (1, 2)]), ["aab"])
        self.assertEqual(orders("aab", [(1, 2)]), ["aab", "aba"])
        self.assertEqual(orders("abab", [(0, 3), (2, 3)]), ["aabb", "abab", "baab"])

    def test_pairs_twice(self):
        self.assertEqual(orders("cab", [(0, 1)] * 5), ["bca", "cab", "cba"])
        self.assertEqual(orders("cab", ((0, 1), (1, 2), (0, 1), (0, 2))), ["cab"])
        self.assertEqual(len(orders("abcdefg", [(0, 6), (1, 6)] * 2000)), 5040 // 3)

    def test_seven_rows_and_eight(self):
        self.assertEqual(len(orders("abcdefg", [])), 5040)
        self.assertEqual(orders("aaaaaaa", []), ["aaaaaaa"])
        chain = [(at, at + 1) for at in range(6)]
        self.assertEqual(orders("gfedcba", chain), ["gfedcba"])
        self.assertEqual(orders("gfedcba", [(0, 6)])[0], "bcdefga")
        for code in ("abcdefgh", "aaaaaaaa", "a" * 200):
            self.assertEqual(raised(orders, code, []), ("NoCode", {}))
            self.assertEqual(raised(orders, code, None), ("NoCode", {}))

    def test_new_lists(self):
        befores = [(0, 1)]
        found = orders("ba", befores)
        found.append("spoiled")
        self.assertEqual(orders("ba", befores), ["ba"])
        self.assertEqual(befores, [(0, 1)])


class ErrorsTest(unittest.TestCase):

    prices = drawn_prices(1, "ab", 2)

    def calls(self, code, befores):
        yield quickest, (M, code, befores)
        yield cheapest, (self.prices, code, befores)
        yield waste, (M, self.prices, code, befores)

    def test_no_code(self):
        things = [thing for thing in odd_things() if not isinstance(thing, str)]
        for thing in things + ["A", "^a", "a b", ("a",), ["a"], b"a", deep("tuple")]:
            for befores in ([], None, [(0, 1)]):
                self.assertEqual(raised(orders, thing, befores), ("NoCode", {}), thing)
        for thing in things + ["c", "abc", "A", "^a", "a" * 8, "ab" * 100]:
            for befores in ([], None, [(0, 1)]):
                for call, given in self.calls(thing, befores):
                    self.assertEqual(raised(call, *given), ("NoCode", {}), thing)
        for thing in things + ["c", "abc", "A", "^a"]:
            self.assertEqual(raised(worst, M, thing), ("NoCode", {}), thing)

    def test_no_befores(self):
        wrong = [thing for thing in odd_things() if thing not in ([], ())]
        pairs = [[0, 1], (1, 0), (0, 0), (1, 1), (0, 3), (2, 3), (-1, 1), (0, -1), (False, 1), (0, True), (True, 2),
                 (0, None), (None, 1), ("0", "1"), "01", b"01", (0,), (0, 1, 2), (), 0, None, ((0, 1),), {0: 1},
                 (10 ** 59, 10 ** 59 + 1), deep("tuple"), deep("list"), (0, deep("list")), M]
        for thing in pairs:
            wrong += [[thing], ((0, 1), thing), [thing, (0, 1)]]
        wrong += [{(0, 1): 1}, iter([(0, 1)]), (0, 1), "01"]
        for thing in wrong:
            self.assertEqual(raised(orders, "aba", thing), ("NoBefores", {}), thing)
            for call, given in self.calls("aba", thing):
                self.assertEqual(raised(call, *given), ("NoBefores", {}), thing)
        for code in ("", "a"):
            self.assertEqual(raised(orders, code, [(0, 1)]), ("NoBefores", {}))

    def test_other_rows_ahead_of_all(self):
        for prices in (drawn_prices(1, "abc"), drawn_prices(1, "a"), drawn_prices(1, "xy", 1)):
            for code, befores in (("ab", []), (None, []), ("ab", None), ("x" * 9, [1])):
                self.assertEqual(raised(waste, M, prices, code, befores), ("OtherRows", {}))


class WorstTest(unittest.TestCase):

    def test_against_all_answers(self):
        for seed in range(60):
            machine = drawn_machine(seed, "ab", 1 + seed % 3, 1 + seed % 8, 99)
            draw = random.Random(seed)
            for length in (0, 1, 2, 3, 5, 30):
                code = "".join(draw.choice("ab") for _ in range(length))
                found = worst(machine, code)
                self.assertEqual(found, slow_worst(machine, code))
                self.assertIs(type(found), int)
            # Once more by all runs, one by one.
            code = "".join(draw.choice("ab") for _ in range(5))
            totals = []
            for told in itertools.product(range(machine.answers), repeat=5):
                total, here = 0, 0
                for row, answer in zip(code, told):
                    spent, here = machine.moves[here]["ab".index(row)][answer]
                    total += spent
                totals.append(total)
            self.assertEqual(worst(machine, code), max(totals))

    def test_long_codes(self):
        self.assertEqual(worst(M, ""), 0)
        self.assertEqual(worst(M, "ba" * 100), 300)
        self.assertEqual(worst(M, "a" * 200), 200)
        self.assertEqual(worst(M, "ba" * 20000), 60000)
        self.assertEqual(worst(X, "a" * 200), 1000)

    def test_machines_of_many_standings(self):
        machine = machine_of(Rig("abcd", 2, (5, 6, 7, 8), (("kept", (0, 1, 2, 3), 2, 10), ("guess", "abc", 1, 3))))
        self.assertGreater(machine.size, 12)
        self.assertEqual(worst(machine, "abcdabc"), slow_worst(machine, "abcdabc"))
        self.assertEqual(quickest(machine, "abcdab", [])[0],
                         min(slow_worst(machine, code) for code in slow_orders("abcdab", [])))


class BestOrderTest(unittest.TestCase):

    def test_example(self):
        self.assertEqual(quickest(M, "aba", []), (3, "aab"))

    def test_quickest(self):
        ties = 0
        for seed, code, befores in cases(120):
            machine = drawn_machine(seed, "ab", 1 + seed % 3, 1 + seed % 6, 3)
            ranked = sorted((slow_worst(machine, order), order) for order in slow_orders(code, befores))
            for given in (befores, tuple(befores)):
                self.assertEqual(quickest(machine, code, given), ranked[0])
            ties += len(ranked) > 1 and ranked[0][0] == ranked[1][0]
        self.assertGreater(ties, 20)

    def test_cheapest(self):
        ties = 0
        for seed, code, befores in cases(180):
            prices = drawn_prices(seed, "ab", 1 + seed % 3)
            ranked = sorted((slow_price(prices, order), order) for order in slow_orders(code, befores))
            for given in (befores, tuple(befores)):
                found = cheapest(prices, code, given)
                self.assertEqual(found, (pair(ranked[0][0]), ranked[0][1]))
                self.assertIs(type(found), tuple)
            ties += len(ranked) > 1 and ranked[0][0] == ranked[1][0]
        self.assertGreater(ties, 20)

    def test_fractions_are_compared_by_value(self):
        prices = Prices("ab", 2, {"^a": (1, 3), "^b": (2, 7), "aa": (0, 1), "ab": (0, 1), "ba": (0, 1), "bb": (0, 1)})
        self.assertEqual(cheapest(prices, "ab", []), ((2, 7), "ba"))
        prices = Prices("ab", 2, {**prices.table, "^a": (-3, 1), "^b": (-10, 3)})
        self.assertEqual(cheapest(prices, "ab", []), ((-10, 3), "ba"))
        self.assertEqual(cheapest(prices, "ab", [(0, 1)]), ((-3, 1), "ab"))

    def test_the_least_order_of_several(self):
        self.assertEqual(quickest(N, "ba", []), (2, "ab"))
        self.assertEqual(quickest(N, "bab", [(0, 1)]), (3, "bab"))
        free = Prices("ab", 1, {"a": (0, 1), "b": (0, 1)})
        self.assertEqual(cheapest(free, "bba", []), ((0, 1), "abb"))
        self.assertEqual(cheapest(free, "bba", [(1, 2)]), ((0, 1), "bab"))
        self.assertEqual(quickest(M, "", []), (0, ""))
        self.assertEqual(cheapest(free, "", ()), ((0, 1), ""))

    def test_waste(self):
        kinds = {0: 0, 1: 0}
        for seed, code, befores in cases(150):
            machine = drawn_machine(seed, "ab", 1 + seed % 2, 1 + seed % 5, 9)
            prices = drawn_prices(seed, "ab", 1 + seed % 3)
            found = waste(machine, prices, code, befores)
            cheap = min((slow_price(prices, order), order) for order in slow_orders(code, befores))[1]
            least = min(slow_worst(machine, order) for order in slow_orders(code, befores))
            self.assertEqual(found, slow_worst(machine, cheap) - least)
            self.assertIs(type(found), int)
            self.assertGreaterEqual(found, 0)
            kinds[min(found, 1)] += 1
        self.assertGreater(min(kinds.values()), 20)

    def test_waste_is_at_most_the_gap(self):
        some = 0
        for seed, code, befores in cases(120):
            width = 1 + seed % 3
            machine = made_machine(seed, width)
            prices, _ = book(machine, width)
            found = waste(machine, prices, code, befores)
            self.assertLessEqual(found, Fraction(*gap(machine, prices)))
            some += found > 0
        self.assertGreater(some, 5)


if __name__ == "__main__":
    unittest.main()

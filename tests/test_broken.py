"""Point 5.4: long runs that break prices."""

import unittest
from fractions import Fraction

from stretchprices.books import book, lots
from stretchprices.bounds import gap
from stretchprices.broken import broken
from stretchprices.machines import Machine
from stretchprices.rests import long_price, long_ticks
from stretchprices.rigs import machine_of
from stretchprices.stretches import Prices, all_stretches
from helpers import ENOUGH, M, MANY, N, X, drawn_machine, drawn_prices, odd_things, pair, raised
from slow_books import made_machine, one_tick_more
from slow_ways import ring_machine, sloping_machine

AMOUNTS = (0, 1, 7, 10 ** 30)


class BrokenTest(unittest.TestCase):

    def check(self, machine, prices):
        """That long runs break the prices by each amount just where there is no gap; the flag whether they do."""
        let = gap(machine, prices) is not None
        for amount in AMOUNTS:
            long = broken(machine, prices, amount)
            self.assertEqual(long is None, let)
            if not let:
                self.assertGreater(abs(long_ticks(machine, long) - Fraction(*long_price(prices, long))), amount)
                self.assertIs(type(long), tuple)
        return not let

    def test_examples(self):
        self.assertTrue(self.check(M, Prices("ab", 1, {"a": (1, 1), "b": (1, 1)})))
        self.assertTrue(self.check(M, Prices("ab", 1, {"a": (3, 2), "b": (1, 1)})))
        self.assertFalse(self.check(M, book(M, 2)[0]))
        self.assertFalse(self.check(N, Prices("ab", 1, {"a": (1, 1), "b": (1, 1)})))

    def test_drawn_ones(self):
        many = 0
        for seed in range(90):
            rows, width = ("ab", "a", "abc", "abcd")[seed % 4], 1 + seed % 3
            machine = drawn_machine(seed, rows, 1 + seed % 3, 1 + seed % 12, 99)
            many += self.check(machine, drawn_prices(seed, rows, width))
        self.assertGreater(many, 60)

    def test_made_ones(self):
        broken_ones = 0
        for seed in range(60):
            width = 1 + seed % 3
            rows = ("ab", "a", "abc")[seed // 3 % 3] if width < 3 else ("ab", "a")[seed % 2]
            machine = made_machine(seed, width, rows)
            prices = book(machine, width)[0]
            self.assertFalse(self.check(machine, prices))
            broken_ones += self.check(one_tick_more(seed, machine), prices)
        self.assertGreater(broken_ones, 20)

    def test_each_price_list_is_broken_where_lots_are_told(self):
        many = 0
        for seed in range(40):
            rows, width = ("ab", "a", "abc")[seed % 3], 1 + seed % 2
            machine = drawn_machine(seed, rows, 2, 1 + seed % 5, 9)
            if lots(machine, width) is None:
                continue
            many += 1
            for draw in range(5):
                self.assertTrue(self.check(machine, drawn_prices(draw, rows, width)))
            level = {name: (5, 1) for name in all_stretches(rows, width)}
            self.assertTrue(self.check(machine, Prices(rows, width, level)))
        self.assertGreater(many, 20)

    def test_rounds_that_are_off_by_little(self):
        # A round of 12 standings is off by a small part of a tick, behind a way that is off the other way about.
        for top in (99 * 12 * 10 ** 6 + 1, 99 * 12 * 10 ** 6 - 1):
            prices = Prices("a", 2, {"^a": pair(Fraction(99) - (top - 99 * 12 * 10 ** 6) * 10 ** 9),
                                     "aa": pair(Fraction(top, 12 * 10 ** 6))})
            self.assertTrue(self.check(ring_machine((99,) * 12), prices))

    def test_only_one_side(self):
        # The rests go up (or down) as far as one likes, and not the other way.
        for price in (1, 100):
            for machine in (N, X, M):
                table = {name: (price, 1) for name in all_stretches(machine.rows, 2)}
                if machine == N and price == 1:
                    self.assertFalse(self.check(machine, Prices(machine.rows, 2, table)))
                else:
                    self.assertTrue(self.check(machine, Prices(machine.rows, 2, table)))

    def test_way_that_is_off_already(self):
        # Behind the first row, which takes 99, a round rises by 1.
        machine = Machine("a", 1, ((((99, 1),),), (((2, 1),),)))
        self.assertTrue(self.check(machine, Prices("a", 1, {"a": (1, 1)})))
        self.assertTrue(self.check(machine, Prices("a", 1, {"a": (3, 1)})))
        self.assertFalse(self.check(machine, Prices("a", 1, {"a": (2, 1)})))

    def test_no_number(self):
        prices = drawn_prices(1)
        wrong = [-1, 10 ** 30 + 1, True, False, "1", (1,), [0], (0, 1), -10 ** 30]
        for amount in wrong + [thing for thing in odd_things() if thing != 0 or isinstance(thing, bool)]:
            self.assertEqual(raised(broken, M, prices, amount), ("NoNumber", {}), amount)
            self.assertEqual(raised(broken, M, drawn_prices(1, "abc"), amount), ("OtherRows", {}))
            self.assertEqual(raised(broken, machine_of(MANY), drawn_prices(1, "abcd", 3), amount), ("NoNumber", {}))
        self.assertEqual(raised(broken, M, drawn_prices(1, "abc"), 1), ("OtherRows", {}))

    def test_too_many(self):
        machine = machine_of(MANY)
        for amount in AMOUNTS:
            self.assertEqual(raised(broken, machine, drawn_prices(1, "abcd", 3), amount), ("TooMany", {"most": 300}))
        self.assertTrue(self.check(machine, drawn_prices(1, "abcd", 2)))
        self.assertTrue(self.check(machine_of(ENOUGH), drawn_prices(1, "abcd", 3)))

    def test_sloping_ones(self):
        for seed in range(20):
            machine = sloping_machine(seed, "ab", 2, 2 + seed % 9)
            self.assertFalse(self.check(machine, book(machine, 1)[0]))


if __name__ == "__main__":
    unittest.main()

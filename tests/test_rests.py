"""Point 3.3: rests and long runs."""

import random
import unittest
from fractions import Fraction

from stretchprices.machines import ticks
from stretchprices.rests import long_price, long_ticks, rest
from stretchprices.rigs import Rig, machine_of
from stretchprices.stretches import Prices, price
from helpers import M, X, drawn_machine, drawn_prices, drawn_run, odd_things, pair, raised, slow_price, walk

BIG = 10 ** 30


def whole(long):
    """A long run written out."""
    return "".join(run[0] * times for run, times in long), sum((run[1] * times for run, times in long), ())


class RestTest(unittest.TestCase):

    def test_examples(self):
        prices = Prices("ab", 1, {"a": (3, 2), "b": (1, 1)})
        self.assertEqual(rest(M, prices, ("", ())), (0, 1))
        self.assertEqual(rest(M, prices, ("ba", (0, 0))), (1, 2))
        self.assertEqual(rest(M, prices, ("aa", (0, 0))), (-1, 1))
        self.assertEqual(rest(M, prices, ("baba", (0,) * 4)), (1, 1))

    def test_drawn_ones(self):
        draw = random.Random(1)
        for seed in range(100):
            rows, answers = "abcd"[:1 + seed % 4], 1 + seed % 3
            machine = drawn_machine(seed, rows, answers, 4, 99)
            prices = drawn_prices(seed, rows, 1 + seed % 3)
            for length in (0, 1, 2, 40):
                run = drawn_run(draw, rows, answers, length)
                self.assertEqual(rest(machine, prices, run), pair(walk(machine, run)[0] - slow_price(prices, run[0])))

    def test_errors(self):
        for run in (("a", (0,)), None):
            self.assertEqual(raised(rest, M, drawn_prices(1, "abc"), run), ("OtherRows", {}))
            self.assertEqual(raised(rest, X, drawn_prices(1, "ab"), run), ("OtherRows", {}))
        prices = drawn_prices(1, "ab")
        for thing in odd_things() + [("a", (1,)), ("c", (0,)), ("a", ()), ("a", [0]), ["a", (0,)], ("a", (True,))]:
            self.assertEqual(raised(rest, M, prices, thing), ("NoRun", {}), thing)


class LongTest(unittest.TestCase):

    def test_examples(self):
        self.assertEqual(long_ticks(M, ()), 0)
        self.assertEqual(long_ticks(M, ((("ba", (0, 0)), BIG),)), 3 * BIG)
        self.assertEqual(long_ticks(M, ((("b", (0,)), 1), (("a", (0,)), BIG))), BIG + 2)
        self.assertEqual(long_ticks(X, ((("a", (0,)), 2 * BIG + 1),)), 10 * BIG + 1)
        prices = Prices("ab", 2, {"^a": (1, 2), "^b": (0, 1), "aa": (1, 3), "ab": (-1, 6), "ba": (2, 1), "bb": (1, 1)})
        self.assertEqual(long_price(prices, ()), (0, 1))
        # "^b" and "ba" once, then "ab" and "ba" each time.
        self.assertEqual(long_price(prices, ((("ba", (0, 0)), BIG),)), pair(2 + (BIG - 1) * Fraction(11, 6)))
        self.assertEqual(long_price(prices, ((("a", (2,)), 3 * BIG + 1),)), (2 * BIG + 1, 2))

    def test_against_the_run_written_out(self):
        draw = random.Random(8)
        for seed in range(250):
            rows, answers = "abcd"[:1 + seed % 4], 1 + seed % 3
            machine = drawn_machine(seed, rows, answers, 1 + seed % 12, 99)
            prices = drawn_prices(seed, rows, 1 + seed % 3)
            long = tuple((drawn_run(draw, rows, answers, draw.choice((0, 1, 1, 2, 3, 5))),
                          draw.choice((0, 1, 2, 3, 7, 30, 31))) for _ in range(draw.randrange(5)))
            run = whole(long)
            self.assertEqual(long_ticks(machine, long), walk(machine, run)[0])
            self.assertEqual(long_price(prices, long), pair(slow_price(prices, run[0])))

    def test_many_times(self):
        draw = random.Random(18)
        for seed in range(100):
            rows = "ab"
            machine = drawn_machine(seed, rows, 2, 1 + seed % 12, 99)
            prices = drawn_prices(seed, rows, 1 + seed % 3)
            ahead, run, behind = [drawn_run(draw, rows, 2, draw.randint(1, 3)) for _ in range(3)]
            # 27720 times go all circles of at most 12 standings whole, so that 27720 further times cost the same.
            sums = [(long_ticks(machine, ((ahead, 1), (run, 20 + 27720 * k), (behind, 2))),
                     Fraction(*long_price(prices, ((ahead, 1), (run, 20 + 27720 * k), (behind, 2)))))
                    for k in (0, 1, 10 ** 25)]
            self.assertEqual(sums[0][0], walk(machine, whole(((ahead, 1), (run, 20), (behind, 2))))[0])
            self.assertEqual(sums[1][0], walk(machine, whole(((ahead, 1), (run, 27740), (behind, 2))))[0])
            for at in (0, 1):
                self.assertEqual(sums[2][at] - sums[0][at], 10 ** 25 * (sums[1][at] - sums[0][at]))

    def test_nothing_and_no_times(self):
        draw = random.Random(2)
        machine, prices = drawn_machine(3), drawn_prices(3, "ab", 3)
        run = drawn_run(draw, "ab", 2, 5)
        for extra in ((("", ()), BIG), (("", ()), 0), (("ab", (1, 0)), 0)):
            long = (extra, (run, 1), extra)
            self.assertEqual(long_ticks(machine, long), ticks(machine, run))
            self.assertEqual(long_price(prices, long), price(prices, run[0]))
            self.assertEqual((long_ticks(machine, (extra,)), long_price(prices, (extra,))), (0, (0, 1)))

    def test_machines_that_were_returned(self):
        machine = machine_of(Rig("abcd", 1, (1, 1, 1, 1), (("kept", (0, 1, 2, 3), 2, 1),)))
        long = ((("abcd", (0,) * 4), BIG), (("dcd", (0,) * 3), BIG))
        self.assertEqual(long_ticks(machine, long), 8 * BIG + 3 * BIG)

    def test_answers(self):
        prices = drawn_prices(1, "ab", 2)
        for answer in (0, 1, 2):
            self.assertEqual(long_price(prices, ((("a", (answer,)), 2),)), price(prices, "aa"))
            given = raised(long_ticks, drawn_machine(1, "ab", 2), ((("a", (answer,)), 2),))
            self.assertEqual(given, None if answer < 2 else ("NoLong", {}))
        self.assertEqual(raised(long_price, prices, ((("a", (3,)), 2),)), ("NoLong", {}))

    def test_no_long_run(self):
        run = ("ab", (0, 1))
        wrong = [[(run, 1)], (run, 1), ((run,),), ((run, 1, 1),), ([run, 1],), ((run, -1),), ((run, True),),
                 ((run, False),), ((run, None),), ((run, "1"),), ((run, (1,)),), ((run, 1), None), ((run, 1), run),
                 (("ab", 1),), ((("ab", [0, 1]), 1),), ((["ab", (0, 1)], 1),), ((("ab", (0,)), 1),),
                 ((("ac", (0, 0)), 1),), ((("ab", (0, True)), 1),), ((("ab", (0, -1)), 1),), ((1, run),),
                 {(run, 1): 1}, run, "ab", ((run, 1), ((), 1)), (((), 0),), ((run, 1), (("ab", (0, 3)), 0))]
        wrong += [thing for thing in odd_things() if thing != ()]
        wrong += [(thing,) for thing in odd_things()] + [((thing, 1),) for thing in odd_things()]
        wrong += [((run, thing),) for thing in odd_things() if type(thing) is not int or thing < 0]
        machine, prices = drawn_machine(1, "ab", 2), drawn_prices(1, "ab", 2)
        for thing in wrong:
            self.assertEqual(raised(long_ticks, machine, thing), ("NoLong", {}), thing)
            self.assertEqual(raised(long_price, prices, thing), ("NoLong", {}), thing)


if __name__ == "__main__":
    unittest.main()

"""Points 12.1 and 12.2: programs, their least and greatest ticks and prices, and what they do."""

import itertools
import random
import unittest
from fractions import Fraction

from stretchprices.books import book
from stretchprices.bounds import fewest, gap, most
from stretchprices.programs import does, extremes, price_extremes, told_extremes
from stretchprices.rigs import Rig, machine_of
from stretchprices.stretches import Prices
from helpers import (ENOUGH, M, MANY, N, X, deep, drawn_machine, drawn_prices, odd_things, pair, raised, slow_price)
from slow_books import made_machine
from slow_programs import codes_of, slow_extremes, small_programs, table_extremes
from slow_ways import ring_machine

MUCH = 10 ** 30
A = (("rows", "a"),)


def nested(depth, inside=A):
    """Loops, so that blocks stand so deep."""
    for _ in range(depth - 1):
        inside = (("times", 1, 2, inside),)
    return inside


def wrong_programs():
    """Things that are no programs over the rows "ab"."""
    found = [thing for thing in odd_things() if thing != ()]
    statements = [
        ["rows", "a"], ("rows",), ("rows", "a", "b"), ("rows", "c"), ("rows", "A"), ("rows", None), ("rows", ("a",)),
        ("rows", ["a"]), ("rows", b"a"), ("rows", 1), ("rows", "a" * 13), ("rows", "^a"), ("rows", deep("tuple")),
        ("either",), ("either", ()), ("either", [A]), ("either", A), ("either", (A,) * 5), ("either", A, A),
        ("either", (A, None)), ("either", (list(A),)), ("either", {0: A}), ("either", ("rows", "a")),
        ("either", deep("tuple")), ("either", ((("rows", "c"),),)),
        ("times", 1, 2), ("times", 1, 2, A, A), ("times", 2, 1, A), ("times", -1, 1, A), ("times", 0, MUCH + 1, A),
        ("times", MUCH + 1, MUCH + 1, A), ("times", True, 1, A), ("times", 0, True, A), ("times", False, 1, A),
        ("times", None, 1, A), ("times", 0, None, A), ("times", "0", 1, A), ("times", (0,), (1,), A),
        ("times", 0, 1, list(A)), ("times", 0, 1, None), ("times", 0, 1, ("rows", "a")), ("times", A, 0, 1),
        ("times", 0, 1, deep("list")), ("times", deep("tuple"), deep("tuple"), A), ("times", 0, 1, (("rows", "z"),)),
        ("row", "a"), ("Rows", "a"), ("", "a"), (None, "a"), (0, "a"), (b"rows", "a"), (("rows",), "a"), (), "rows",
        ("rows a",), ("time", 0, 1, A), ("eithers", (A,)), (M, "a"), None, 1, True, M, deep("tuple"), deep("dict"),
    ]
    for statement in statements:
        found += [(statement,), A + (statement,), [statement], (("times", 0, 2, (statement,)),),
                  (("either", (A, (statement,))),)]
    found += [A * 7, nested(5), nested(5, ()), (("either", (nested(4),)),), (("times", 0, 0, A * 7),), list(A),
              ("rows", "a"), {("rows", "a"): 1}, iter(A)]
    return found


class ProgramTest(unittest.TestCase):

    def calls(self, thing):
        """Each function with the thing as a program, and with right and wrong things behind it."""
        yield extremes, (M, thing)
        yield price_extremes, (drawn_prices(1), thing)
        yield told_extremes, (M, drawn_prices(1), thing)
        for code in ("ab", None, "c"):
            yield does, ("ab", thing, code)

    def test_no_program(self):
        for thing in wrong_programs():
            for call, given in self.calls(thing):
                self.assertEqual(raised(call, *given), ("NoProgram", {}), thing)

    def test_right_programs(self):
        right = [(), ((("rows", "")),), A * 6, (("rows", "ab" * 6),), nested(4), nested(4, ()), nested(4, A * 6),
                 (("either", (A,) * 4),), (("either", ((),)),), (("times", 0, 0, ()),), (("times", 0, MUCH, A),),
                 (("times", MUCH, MUCH, ()),), (("either", (nested(3),)),)]
        for thing in right:
            for call, given in self.calls(thing):
                if given[-1] is None or given[-1] == "c":
                    self.assertEqual(raised(call, *given), ("NoCode", {}), thing)
                else:
                    self.assertIsNone(raised(call, *given), thing)

    def test_as_many_blocks_as_may_be(self):
        block = (("rows", "ab"),) * 6
        for _ in range(3):
            block = (("either", (block, A, ())),) * 6
        self.assertEqual(extremes(N, block), (0, 6 ** 4 * 2))
        self.assertIs(does("ab", block, "ab" * 96 + "a"), True)
        self.assertIs(does("ab", block, "ab" * 97), False)

    def test_rows_decide(self):
        program = (("rows", "abc"),)
        self.assertEqual(raised(extremes, M, program), ("NoProgram", {}))
        self.assertEqual(raised(price_extremes, drawn_prices(1, "ab"), program), ("NoProgram", {}))
        self.assertEqual(raised(does, "ab", program, "abc"), ("NoProgram", {}))
        self.assertIs(does("abc", program, "abc"), True)
        self.assertEqual(extremes(drawn_machine(1, "abc", 1, 1, 1), program), (3, 3))


class ExtremesTest(unittest.TestCase):

    def test_example(self):
        self.assertEqual(extremes(M, (("times", 2, 3, (("rows", "ba"),)),)), (6, 9))

    def test_against_all_codes(self):
        machines = [M, N, X] + [drawn_machine(seed, "ab", 1 + seed % 3, 1 + seed % 5, 9) for seed in range(6)]
        wide = 0
        for program, codes in small_programs("a", 120):
            for machine in machines[2:3] + machines[:1]:
                self.assertEqual(extremes(machine, program), slow_extremes(machine, codes), program)
        for program, codes in small_programs("ab", 250):
            for machine in machines[:2] + machines[3:]:
                found = extremes(machine, program)
                self.assertIs(type(found), tuple)
                self.assertEqual(found, slow_extremes(machine, codes), program)
                wide += len(codes) > 10 and found[0] < found[1]
        self.assertGreater(wide, 100)

    def test_empty_programs(self):
        for program in ((), (("rows", ""),), (("times", 0, 0, A),), (("times", 3, MUCH, ()),), (("either", ((), ())),)):
            for machine in (M, N):
                self.assertEqual(extremes(machine, program), (0, 0))

    def test_times(self):
        for machine in (M, N):
            for least, greatest in ((0, 0), (0, 1), (1, 1), (0, MUCH), (7, MUCH), (MUCH, MUCH), (MUCH - 1, MUCH)):
                # Row b takes one tick, wherever it stands.
                self.assertEqual(extremes(machine, (("times", least, greatest, (("rows", "b"),)),)), (least, greatest))
        # Each a behind a b takes two ticks.
        self.assertEqual(extremes(M, (("times", MUCH - 1, MUCH, (("rows", "ba"),)),)), (3 * MUCH - 3, 3 * MUCH))
        self.assertEqual(extremes(M, (("times", 0, MUCH, (("rows", "ab"),)),)), (0, 3 * MUCH - 1))
        self.assertEqual(extremes(M, (("times", MUCH, MUCH, (("either", (A, (("rows", "b"),))),)),)),
                         (MUCH, MUCH + MUCH // 2))

    def test_loops_in_loops(self):
        program = A
        for _ in range(3):
            program = (("times", 0, MUCH, program),)
        self.assertEqual(extremes(N, program), (0, MUCH ** 3))
        inner = (("times", MUCH, MUCH, (("rows", "ba"),)),)
        self.assertEqual(extremes(M, (("times", MUCH, MUCH, inner), ("rows", "a"))),
                         (3 * MUCH ** 2 + 1, 3 * MUCH ** 2 + 1))

    def test_great_numbers_against_tables(self):
        draw = random.Random(3)
        wide = 0
        for seed in range(60):
            machine = drawn_machine(seed, "ab", 1 + seed % 3, 1 + seed % 6, 99)
            if seed % 4 == 0:
                machine = ring_machine([draw.randint(1, 99) for _ in range(1 + seed % 7)], "ab", 1)
            program = self.with_great_numbers(draw, 1)
            found = extremes(machine, program)
            self.assertEqual(found, table_extremes(machine, program), program)
            wide += found[1] > MUCH // 2
        self.assertGreater(wide, 20)

    def with_great_numbers(self, draw, depth):
        """A program of loops with great numbers."""
        found = []
        for _ in range(draw.randint(1, 2)):
            word = ("rows", "".join(draw.choice("ab") for _ in range(draw.randint(1, 3))))
            if depth == 4 or draw.random() < 0.4:
                found.append(word)
            elif draw.random() < 0.3:
                found.append(("either", ((word,), self.with_great_numbers(draw, depth + 1))))
            else:
                ends = sorted(draw.choice((0, 1, 5, 1000, MUCH - 7, MUCH, draw.randint(0, MUCH))) for _ in range(2))
                found.append(("times", ends[0], ends[1], self.with_great_numbers(draw, depth + 1)))
        return tuple(found)

    def test_slow_rounds_win_in_the_end(self):
        # A long way to a round that is only a little better than the one at hand.
        moves = [((99, 0), (1, 1))] + [((1, here + 1),) * 2 for here in range(1, 5)] + [((100 - 1, 5),) * 2]
        machine = drawn_machine(1, "a", 2, 6)
        machine = type(machine)("a", 2, tuple((pairs,) for pairs in moves))
        for many in (1, 4, 5, 6, 50, 1000, MUCH):
            program = (("times", many, many, A),)
            self.assertEqual(extremes(machine, program), table_extremes(machine, program))
            self.assertEqual(extremes(machine, program)[1], 99 * many)

    def test_machines_of_many_standings(self):
        machine = machine_of(Rig("abcd", 2, (5, 6, 7, 8), (("kept", (0, 1, 2, 3), 2, 10), ("guess", "abc", 1, 3))))
        self.assertGreater(machine.size, 12)
        program = (("times", 2, 3, (("either", ((("rows", "ab"),), (("rows", "cd"),))),)), ("rows", "d"))
        self.assertEqual(extremes(machine, program), slow_extremes(machine, codes_of(program)))
        loop = (("times", MUCH, MUCH, (("rows", "abcabd"),)),)
        least, greatest = extremes(machine, loop)
        # Two lines are kept: in each round all but one row of six waits 10 ticks.
        self.assertTrue(36 * MUCH <= least < greatest <= 200 * MUCH)
        self.assertEqual((least, greatest), table_extremes(machine, loop))

    def test_equal_calls_have_equal_answers(self):
        program = (("times", 3, MUCH, (("either", (A, (("rows", "bb"),))),)),)
        self.assertEqual(extremes(drawn_machine(3), program), extremes(drawn_machine(3), program))


class PriceExtremesTest(unittest.TestCase):

    def test_against_all_codes(self):
        priced = [drawn_prices(seed, "ab", 1 + seed % 3) for seed in range(9)]
        for program, codes in small_programs("ab", 200):
            for prices in priced:
                costs = [slow_price(prices, code) for code in codes]
                found = price_extremes(prices, program)
                self.assertIs(type(found), tuple)
                self.assertEqual(found, (pair(min(costs)), pair(max(costs))))

    def test_times(self):
        prices = Prices("ab", 2, {"^a": (1, 2), "^b": (0, 1), "aa": (-1, 3), "ab": (1, 1), "ba": (2, 1), "bb": (0, 1)})
        self.assertEqual(price_extremes(prices, (("times", 0, 0, A),)), ((0, 1), (0, 1)))
        self.assertEqual(price_extremes(prices, (("times", 0, 3 * 10 ** 29, A),)),
                         (pair(Fraction(1, 2) - Fraction(3 * 10 ** 29 - 1, 3)), (1, 2)))
        self.assertEqual(price_extremes(prices, (("times", 1, MUCH, (("rows", "ab"),)),)),
                         ((3, 2), pair(Fraction(3, 2) + 3 * (MUCH - 1))))
        program = (("times", MUCH, MUCH, (("either", (A, (("rows", "b"),))),)),)
        self.assertEqual(price_extremes(prices, program),
                         (pair(Fraction(1, 2) - Fraction(MUCH - 1, 3)), (3 * MUCH // 2 - 1, 1)))

    def test_great_prices(self):
        great = 10 ** 59 + 1
        prices = Prices("ab", 1, {"a": (great, great - 2), "b": (-great, 10 ** 59)})
        self.assertEqual(price_extremes(prices, (("times", MUCH, MUCH, (("either", (A, (("rows", "b"),))),)),)),
                         (pair(Fraction(-great, 10 ** 59) * MUCH), pair(Fraction(great, great - 2) * MUCH)))


class ToldTest(unittest.TestCase):

    def test_the_pair_and_what_it_tells(self):
        kinds = {"told": 0, "none": 0}
        programs = list(itertools.islice(small_programs("ab", 60), 60))
        for seed in range(60):
            width = 1 + seed % 3
            machine = made_machine(seed, width) if seed % 2 else drawn_machine(seed, "ab", 1 + seed % 2, 3)
            prices = book(machine, width)[0] if book(machine, width) else drawn_prices(seed, "ab", width)
            program, codes = programs[seed]
            found = told_extremes(machine, prices, program)
            self.assertEqual(found is None, gap(machine, prices) is None)
            if found is None:
                kinds["none"] += 1
                continue
            kinds["told"] += 1
            costs = [slow_price(prices, code) for code in codes]
            self.assertIs(type(found), tuple)
            self.assertEqual(found, (pair(min(costs) + Fraction(*fewest(machine, prices)[0])),
                                     pair(max(costs) + Fraction(*most(machine, prices)[0]))))
            least, greatest = slow_extremes(machine, codes)
            self.assertTrue(Fraction(*found[0]) <= least <= greatest <= Fraction(*found[1]))
        self.assertGreater(min(kinds.values()), 15, kinds)

    def test_great_loops(self):
        prices, _ = book(M, 2)
        program = (("times", MUCH, MUCH, (("either", (A, (("rows", "b"),))),)), ("rows", "ab"))
        least, greatest = told_extremes(M, prices, program)
        ends = extremes(M, program)
        self.assertTrue(Fraction(*least) <= ends[0] < ends[1] <= Fraction(*greatest))
        self.assertTrue(ends[0] - Fraction(*least) <= 20 and Fraction(*greatest) - ends[1] <= 20)

    def test_one_end_is_lacking(self):
        # By these prices rests only rise, or only fall.
        for worth in ((0, 1), (9, 1)):
            prices = Prices("ab", 1, {"a": worth, "b": worth})
            self.assertIsNone(gap(M, prices))
            self.assertIsNone(told_extremes(M, prices, A))
            self.assertIsNone(told_extremes(M, prices, ()))

    def test_order_of_errors(self):
        many = machine_of(MANY)
        prices = drawn_prices(1, "abcd", 3)
        self.assertEqual(raised(told_extremes, many, prices, A), ("TooMany", {"most": 300}))
        self.assertEqual(raised(told_extremes, many, prices, ()), ("TooMany", {"most": 300}))
        self.assertIsNone(raised(told_extremes, machine_of(ENOUGH), prices, A))
        for thing in (None, [], (("rows", "e"),)):
            self.assertEqual(raised(told_extremes, many, prices, thing), ("NoProgram", {}))
            for other in (drawn_prices(1, "ab", 3), drawn_prices(1, "abc", 1), drawn_prices(2, "bcde", 1)):
                self.assertEqual(raised(told_extremes, many, other, thing), ("OtherRows", {}))
        self.assertEqual(raised(told_extremes, many, drawn_prices(1, "abc", 3), A), ("OtherRows", {}))


class DoesTest(unittest.TestCase):

    def test_against_all_codes(self):
        kinds = {True: 0, False: 0}
        for program, codes in small_programs("ab", 300):
            for length in range(5):
                for letters in itertools.product("ab", repeat=length):
                    code = "".join(letters)
                    found = does("ab", program, code)
                    self.assertIs(found, code in codes, (program, code))
                    kinds[found] += 1
            for code in sorted(codes, key=len)[-3:]:
                self.assertIs(does("ab", program, code), True)
                self.assertIs(does("ab", program, code + "a"), code + "a" in codes)
        self.assertGreater(min(kinds.values()), 400)

    def test_repeated_words(self):
        for least, greatest in ((0, MUCH), (3, MUCH), (MUCH, MUCH), (0, 100), (100, 100), (99, MUCH), (101, MUCH),
                                (0, 99)):
            program = (("times", least, greatest, (("rows", "ab"),)),)
            for many in (0, 1, 2, 3, 50, 99, 100):
                self.assertIs(does("ab", program, "ab" * many), least <= many <= greatest)
            for code in ("aba", "ba", "a", "abba", "ab" * 99 + "a"):
                self.assertIs(does("ab", program, code), False)

    def test_loops_in_loops(self):
        # Each round is some a's, at least one, and a b behind them.
        program = (("times", 2, MUCH, (("times", 1, MUCH, A), ("rows", "b"))),)
        for code, wanted in (("abab", True), ("ab", False), ("aaabab", True), ("abb", False), ("ba", False),
                             ("a" * 99 + "b" + "a" * 99 + "b", True), ("ab" * 100, True), ("ab" * 99 + "aa", False)):
            self.assertIs(does("ab", program, code), wanted, code)
        # Numbers of rows that are sums of sevens and elevens.
        words = (("rows", "a" * 7),), (("rows", "a" * 11),)
        program = (("times", 0, MUCH, (("either", words),)),)
        for many in range(201):
            wanted = any((many - 11 * k) % 7 == 0 for k in range(many // 11 + 1))
            self.assertIs(does("a", program, "a" * many), wanted, many)
        # Just so many sevens and elevens.
        program = (("times", 5, 6, (("either", words),)),)
        for many in range(80):
            wanted = any(many == 7 * k + 11 * (turns - k) for turns in (5, 6) for k in range(turns + 1))
            self.assertIs(does("a", program, "a" * many), wanted, many)

    def test_blocks_that_can_do_nothing(self):
        nothing = [(), (("rows", ""),), (("times", 0, 0, A),), (("either", ((), (("rows", ""),))),)]
        for block in nothing:
            for least, greatest in ((0, 0), (0, MUCH), (MUCH, MUCH)):
                program = (("times", least, greatest, block),)
                self.assertIs(does("ab", program, ""), True)
                self.assertIs(does("ab", program, "a"), False)
        perhaps = (("either", ((), A)),)
        for least, greatest in ((3, 3), (0, 3), (2, 3)):
            for many in range(6):
                self.assertIs(does("ab", (("times", least, greatest, perhaps),), "a" * many), many <= 3)
        # So often, any number of times: a block that can do nothing need not do anything.
        program = (("times", MUCH, MUCH, (("times", 0, MUCH, perhaps),)), ("rows", "b"))
        for many in (0, 1, 199):
            self.assertIs(does("ab", program, "a" * many + "b"), True)
        self.assertIs(does("ab", program, "a" * 199), False)

    def test_other_letters(self):
        self.assertIs(does("cx", (("rows", "xc"),), "xc"), True)
        self.assertIs(does("cx", (("rows", "xc"),), "cx"), False)

    def test_order_of_errors(self):
        for thing in odd_things() + ["ba", "aa", "", "abcde", "A", ("a",)]:
            if isinstance(thing, str) and thing in ("a", "ab"):
                continue
            for program in (A, None, []):
                for code in ("a", None):
                    self.assertEqual(raised(does, thing, program, code), ("NoRows", {}), thing)
        for thing in odd_things() + ["c", "A", "^a", ("a",), ["a"], b"a"]:
            if isinstance(thing, str) and not set(thing) - set("ab"):
                continue
            self.assertEqual(raised(does, "ab", A, thing), ("NoCode", {}), thing)
            self.assertEqual(raised(does, "ab", [], thing), ("NoProgram", {}), thing)


if __name__ == "__main__":
    unittest.main()

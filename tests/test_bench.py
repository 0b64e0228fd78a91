"""Point 15.1: the bench, against a plain list."""

import random
import unittest
from fractions import Fraction

from stretchprices.bench import Bench
from stretchprices.machines import Machine
from stretchprices.rigs import Rig, machine_of
from stretchprices.stretches import Prices
from helpers import M, N, X, deep, drawn_machine, drawn_prices, odd_things, pair, raised, slow_price, walk

FREE = Prices("ab", 1, {"a": (0, 1), "b": (0, 1)})


class Stop(Exception):
    """An error that an action raises."""


class Plain:
    """What a bench should be: a list of pairs (row, answer), and the lists that can come back."""

    def __init__(self, machine, prices):
        self.machine, self.prices, self.steps, self.past = machine, prices, [], []

    def do(self, steps):
        self.past.append(self.steps)
        self.steps = steps

    def run(self):
        return "".join(row for row, _ in self.steps), tuple(answer for _, answer in self.steps)

    def ticks(self, steps=None):
        steps = self.steps if steps is None else steps
        return walk(self.machine, ([row for row, _ in steps], [answer for _, answer in steps]))[0]

    def rests(self):
        code, told = self.run()
        return [pair(walk(self.machine, (code[:many], told[:many]))[0] - slow_price(self.prices, code[:many]))
                for many in range(len(code) + 1)]

    def lowest(self):
        left = [self.ticks(self.steps[:at] + self.steps[at + 1:]) for at in range(len(self.steps))]
        return left.index(min(left)) if left else None


def act(draw, bench, plain):
    """Do the same to both, by chance; one of the things that a bench can do."""
    many = len(plain.steps)
    row, answer = draw.choice(plain.machine.rows), draw.randrange(plain.machine.answers)
    kind = draw.choice(("put", "put", "insert", "insert", "strike", "turn", "back"))
    place = draw.randrange(many + (kind == "insert")) if many or kind == "insert" else None
    if kind == "put":
        plain.do(plain.steps + [(row, answer)])
        return bench.put(row, answer)
    if kind == "insert":
        plain.do(plain.steps[:place] + [(row, answer)] + plain.steps[place:])
        return bench.insert(place, row, answer)
    if kind == "back":
        if plain.past:
            plain.steps = plain.past.pop()
            return bench.back()
        return None
    if place is None:
        return None
    if kind == "strike":
        plain.do(plain.steps[:place] + plain.steps[place + 1:])
        return bench.strike(place)
    plain.do(plain.steps[:place] + [(plain.steps[place][0], answer)] + plain.steps[place + 1:])
    return bench.turn(place, answer)


def cases(many):
    for seed in range(many):
        rows = ("ab", "a", "cxz")[seed % 3]
        machine = drawn_machine(seed, rows, 1 + seed % 3, 1 + seed % 7, 1 + seed % 20)
        prices = drawn_prices(seed, rows, 1 + seed % 2 + seed % 2)
        yield random.Random(seed), machine, prices


class Checks(unittest.TestCase):

    def check(self, bench, plain):
        self.assertEqual(bench.run(), plain.run())
        self.assertEqual(bench.ticks(), plain.ticks())
        price = slow_price(plain.prices, plain.run()[0])
        self.assertEqual(bench.price(), pair(price))
        self.assertEqual(bench.rest(), pair(plain.ticks() - price))
        self.assertEqual(bench.rests(), plain.rests())
        self.assertEqual(bench.depth(), len(plain.past))
        self.assertEqual(bench.lowest(), plain.lowest())

    def filled(self, draw, machine, prices, many=30):
        bench, plain = Bench(machine, prices), Plain(machine, prices)
        for _ in range(many):
            act(draw, bench, plain)
        return bench, plain

    def check_back(self, bench, plain):
        """What can be taken back is taken back on both."""
        past = list(plain.past)
        while past:
            bench.back()
            steps = past.pop()
            self.assertEqual(bench.run(), ("".join(row for row, _ in steps), tuple(told for _, told in steps)))
        self.assertEqual(raised(bench.back), ("NothingDone", {}))


class BenchTest(Checks):

    def test_at_first(self):
        bench = Bench(M, FREE)
        self.assertEqual(bench.run(), ("", ()))
        self.assertEqual((bench.ticks(), bench.price(), bench.rest(), bench.rests()), (0, (0, 1), (0, 1), [(0, 1)]))
        self.assertEqual((bench.depth(), bench.lowest()), (0, None))
        self.assertEqual(raised(bench.back), ("NothingDone", {}))

    def test_drawn_actions(self):
        longest = 0
        for draw, machine, prices in cases(30):
            bench, plain = Bench(machine, prices), Plain(machine, prices)
            for _ in range(120):
                self.assertIsNone(act(draw, bench, plain))
                self.check(bench, plain)
                longest = max(longest, len(plain.steps))
        self.assertGreater(longest, 30)

    def test_kinds_of_values(self):
        bench = Bench(X, Prices("a", 1, {"a": (1, 2)}))
        bench.put("a", 1)
        code, told = bench.run()
        self.assertEqual((type(code), type(told), type(bench.run())), (str, tuple, tuple))
        self.assertEqual((type(bench.ticks()), type(bench.depth()), type(bench.lowest())), (int, int, int))
        for fraction in (bench.price(), bench.rest(), *bench.rests()):
            self.assertEqual((type(fraction), len(fraction)), (tuple, 2))

    def test_insert_at_all_places(self):
        for place in range(4):
            bench = Bench(drawn_machine(1, "abc", 3), drawn_prices(1, "abc"))
            for row, answer in (("a", 0), ("b", 1), ("a", 2)):
                bench.put(row, answer)
            bench.insert(place, "c", 1)
            code, told = ["a", "b", "a"], [0, 1, 2]
            code.insert(place, "c")
            told.insert(place, 1)
            self.assertEqual(bench.run(), ("".join(code), tuple(told)))
            bench.strike(place)
            self.assertEqual(bench.run(), ("aba", (0, 1, 2)))

    def test_new_lists(self):
        bench = Bench(M, FREE)
        bench.put("b", 0)
        found = bench.rests()
        found.append("spoiled")
        found[0] = None
        self.assertEqual(bench.rests(), [(0, 1), (1, 1)])

    def test_long_codes(self):
        bench = Bench(M, drawn_prices(1, "ab", 2))
        for _ in range(1500):
            bench.put("b", 0)
            bench.put("a", 0)
        self.assertEqual(bench.ticks(), 4500)
        self.assertEqual(len(bench.rests()), 3001)
        self.assertEqual(bench.lowest(), 0)
        self.assertEqual(bench.depth(), 3000)
        for _ in range(3000):
            bench.back()
        self.assertEqual(bench.run(), ("", ()))

    def test_machines_of_many_standings(self):
        machine = machine_of(Rig("abcd", 2, (5, 6, 7, 8), (("kept", (0, 1, 2, 3), 2, 10), ("guess", "abc", 1, 3))))
        self.assertGreater(machine.size, 12)
        bench, plain = self.filled(random.Random(1), machine, drawn_prices(1, "abcd", 3), 80)
        self.check(bench, plain)

    def test_other_rows(self):
        for prices in (drawn_prices(1, "abc"), drawn_prices(1, "a"), drawn_prices(1, "xy", 1)):
            self.assertEqual(raised(Bench, M, prices), ("OtherRows", {}))

    def test_benches_equal_nothing_else(self):
        bench = Bench(M, FREE)
        for thing in odd_things() + [Bench(N, FREE).run(), Plain(M, FREE)]:
            self.assertIs(bench == thing, False)
            self.assertIs(bench != thing, True)


class ErrorsTest(Checks):

    def calls(self, bench, many, place, row, answer):
        """What a bench of so many rows must raise of these arguments, by the order of the arguments."""
        wrong_row = not (isinstance(row, str) and row in ("a", "b"))
        wrong_answer = type(answer) is not int or not 0 <= answer <= 1
        last = "NoRow" if wrong_row else "NoAnswer" if wrong_answer else None
        is_place = type(place) is int and 0 <= place
        yield bench.put, (row, answer), last
        yield bench.insert, (place, row, answer), last if is_place and place <= many else "NoPlace"
        inner = is_place and place < many
        yield bench.strike, (place,), None if inner else "NoPlace"
        yield bench.turn, (place, answer), ("NoAnswer" if wrong_answer else None) if inner else "NoPlace"

    def test_each_argument(self):
        things = odd_things() + [1, 2, 3, 4, -1, "b", "c", "A", "ab", deep("tuple")]
        for many in (0, 1, 3):
            for thing in things:
                for place, row, answer in ((thing, "a", 0), (thing, None, None), (0, thing, 0), (0, thing, None),
                                           (0, "b", thing), (many, "b", thing), (None, thing, thing)):
                    bench = Bench(drawn_machine(1, "ab", 2), drawn_prices(1))
                    for _ in range(many):
                        bench.put("a", 1)
                    for call, given, error in self.calls(bench, many, place, row, answer):
                        run, depth = bench.run(), bench.depth()
                        if error is not None:
                            self.assertEqual(raised(call, *given), (error, {}), given)
                            self.assertEqual((bench.run(), bench.depth()), (run, depth))
                        else:
                            self.assertIsNone(raised(call, *given), given)
                            self.assertEqual(bench.depth(), depth + 1)
                            bench.back()
                            self.assertEqual(bench.run(), run)

    def test_places(self):
        bench = Bench(M, FREE)
        for place in (0, 1, -1):
            self.assertEqual(raised(bench.strike, place), ("NoPlace", {}))
            self.assertEqual(raised(bench.turn, place, 0), ("NoPlace", {}))
        for place in (1, -1, True, False):
            self.assertEqual(raised(bench.insert, place, "a", 0), ("NoPlace", {}))
        bench.insert(0, "a", 0)
        bench.insert(1, "b", 0)
        self.assertEqual(bench.run(), ("ab", (0, 0)))
        for place in (2, 3, -1, True, False, 10 ** 59):
            self.assertEqual(raised(bench.strike, place), ("NoPlace", {}))
            self.assertEqual(raised(bench.turn, place, 0), ("NoPlace", {}))
        for place in (3, -1, True, False):
            self.assertEqual(raised(bench.insert, place, "a", 0), ("NoPlace", {}))
        bench.strike(1)
        bench.turn(0, 0)
        self.assertEqual(bench.run(), ("a", (0,)))

    def test_answers_of_the_machine(self):
        for answers in (1, 2, 3):
            bench = Bench(drawn_machine(1, "ab", answers), FREE)
            for answer in range(answers):
                self.assertIsNone(raised(bench.put, "a", answer))
            for answer in (answers, -1, True, False, None):
                self.assertEqual(raised(bench.put, "a", answer), ("NoAnswer", {}))
                self.assertEqual(raised(bench.turn, 0, answer), ("NoAnswer", {}))

    def test_what_was_refused_changes_nothing(self):
        for draw, machine, prices in cases(12):
            bench, plain = self.filled(draw, machine, prices)
            for call, given in ((bench.put, ("?", 0)), (bench.put, (machine.rows[0], 9)), (bench.strike, (99,)),
                                (bench.insert, (99, machine.rows, 0)), (bench.insert, (0, machine.rows[0], None)),
                                (bench.insert, (0, "", 0)), (bench.turn, (0, -1)), (bench.turn, (-1, 0))):
                self.assertIsNotNone(raised(call, *given))
                self.check(bench, plain)


class BackTest(Checks):

    def test_behind_each_kind(self):
        bench = Bench(X, Prices("a", 1, {"a": (1, 1)}))
        runs = [bench.run()]
        for call, given in ((bench.put, ("a", 0)), (bench.put, ("a", 1)), (bench.insert, (1, "a", 0)),
                            (bench.turn, (0, 1)), (bench.turn, (0, 1)), (bench.strike, (2,)),
                            (bench.insert, (2, "a", 0)), (bench.strike, (0,)), (bench.turn, (1, 0)),
                            (bench.turn, (0, 1))):
            call(*given)
            runs.append(bench.run())
            self.assertEqual(bench.depth(), len(runs) - 1)
        # One of them gave the answer that was there: it is taken back, too.
        self.assertEqual(runs[4], runs[5])
        while len(runs) > 1:
            self.assertEqual(bench.run(), runs.pop())
            self.assertIsNone(bench.back())
            self.assertEqual(bench.depth(), len(runs) - 1)
        self.assertEqual(bench.run(), ("", ()))
        self.assertEqual(raised(bench.back), ("NothingDone", {}))
        self.assertEqual(bench.depth(), 0)

    def test_all_the_way_back(self):
        for draw, machine, prices in cases(20):
            bench, plain = self.filled(draw, machine, prices, 60)
            while plain.past:
                plain.steps = plain.past.pop()
                bench.back()
                self.assertEqual((bench.run(), bench.depth()), (plain.run(), len(plain.past)))
            self.assertEqual(raised(bench.back), ("NothingDone", {}))

    def test_other_methods_are_not_taken_back(self):
        bench = Bench(M, FREE)
        bench.put("b", 0)
        bench.put("a", 0)
        for call in (bench.run, bench.ticks, bench.price, bench.rest, bench.rests, bench.depth, bench.lowest,
                     bench.copy):
            call()
        bench.trying(lambda it: it.put("a", 0))
        self.assertEqual(bench.depth(), 2)
        bench.back()
        self.assertEqual(bench.run(), ("b", (0,)))


class LowestTest(Checks):

    def test_ties(self):
        bench = Bench(N, FREE)
        for row in "abba":
            bench.put(row, 0)
        self.assertEqual(bench.lowest(), 0)
        bench = Bench(M, FREE)
        for row in "aba":
            bench.put(row, 0)
        # Without b, or without the a behind it, two ticks are left, without the first a three.
        self.assertEqual(bench.lowest(), 1)

    def test_striking_can_make_it_longer(self):
        # Row a takes long unless b stands ahead.
        machine = Machine("ab", 1, ((((99, 0),), ((1, 1),)), (((1, 1),), ((50, 0),))))
        bench = Bench(machine, FREE)
        for row in "baaab":
            bench.put(row, 0)
        self.assertEqual(bench.lowest(), 4)
        bench.back()
        self.assertEqual(bench.lowest(), 1)

    def test_no_row(self):
        bench = Bench(M, FREE)
        bench.put("a", 0)
        self.assertEqual(bench.lowest(), 0)
        bench.strike(0)
        self.assertIsNone(bench.lowest())


class TryingTest(Checks):

    def test_it_returns_what_the_action_returns(self):
        bench = Bench(M, FREE)
        for thing in (None, 0, "a", [1], bench.put):
            given = []

            def action(it):
                given.append(it)
                return thing
            self.assertIs(bench.trying(action), thing)
            self.assertIs(given[0], bench)

    def test_everything_is_put_back(self):
        for draw, machine, prices in cases(20):
            bench, plain = self.filled(draw, machine, prices)

            def action(it):
                other = Plain(machine, prices)
                other.steps, other.past = list(plain.steps), list(plain.past)
                for _ in range(40):
                    act(draw, it, other)
                self.check(it, other)
                return it.ticks()
            self.assertIs(type(bench.trying(action)), int)
            self.check(bench, plain)
            self.check_back(bench, plain)

    def test_back_inside(self):
        for draw, machine, prices in cases(9):
            bench, plain = self.filled(draw, machine, prices)

            def action(it):
                while it.depth():
                    it.back()
                it.put(machine.rows[0], 0)
                return it.run()
            self.assertEqual(bench.trying(action), (machine.rows[0], (0,)))
            self.check(bench, plain)
            self.check_back(bench, plain)

    def test_errors_go_on(self):
        for draw, machine, prices in cases(9):
            bench, plain = self.filled(draw, machine, prices)

            def stopping(it):
                it.put(machine.rows[0], 0)
                it.strike(0)
                raise Stop("here")
            with self.assertRaisesRegex(Stop, "here"):
                bench.trying(stopping)
            self.check(bench, plain)
            self.assertEqual(raised(bench.trying, lambda it: [it.put(machine.rows[0], 0), it.put("?", 0)]),
                             ("NoRow", {}))
            self.check(bench, plain)

            def emptied(it):
                while True:
                    it.back()
            self.assertEqual(raised(bench.trying, emptied), ("NothingDone", {}))
            self.check(bench, plain)
            self.check_back(bench, plain)

    def test_within_another(self):
        bench = Bench(M, FREE)
        bench.put("b", 0)

        def inner(it):
            it.put("b", 0)
            it.back()
            it.back()
            return it.run()

        def outer(it):
            it.put("a", 0)
            seen = [it.run(), it.trying(inner), it.run(), it.depth()]
            try:
                it.trying(lambda one: one.trying(lambda two: [two.put("a", 0), two.strike(9)]))
            finally:
                seen.append(it.run())
            return seen
        self.assertEqual(raised(bench.trying, outer), ("NoPlace", {}))
        self.assertEqual((bench.run(), bench.depth()), (("b", (0,)), 1))

        def other(it):
            it.put("a", 0)
            return [it.run(), it.trying(inner), it.run(), it.depth()]
        self.assertEqual(bench.trying(other), [("ba", (0, 0)), ("b", (0,)), ("ba", (0, 0)), 2])
        self.assertEqual((bench.run(), bench.depth()), (("b", (0,)), 1))
        bench.put("a", 0)
        bench.back()
        self.assertEqual(bench.run(), ("b", (0,)))


class CopyTest(Checks):

    def test_it_goes_on_apart(self):
        for draw, machine, prices in cases(20):
            bench, plain = self.filled(draw, machine, prices)
            other = bench.copy()
            self.assertIs(type(other), Bench)
            self.assertIsNot(other, bench)
            beside = Plain(machine, prices)
            beside.steps, beside.past = list(plain.steps), list(plain.past)
            self.check(other, beside)
            for _ in range(40):
                act(draw, bench, plain)
                act(draw, other, beside)
            self.check(bench, plain)
            self.check(other, beside)
            self.check_back(other, beside)
            self.check(bench, plain)
            self.check_back(bench, plain)

    def test_copies_of_what_is_tried(self):
        bench = Bench(M, FREE)
        bench.put("b", 0)

        def action(it):
            it.put("a", 0)
            return it.copy()
        kept = bench.trying(action)
        self.assertEqual((kept.run(), kept.depth()), (("ba", (0, 0)), 2))
        self.assertEqual((bench.run(), bench.depth()), (("b", (0,)), 1))
        kept.back()
        kept.back()
        self.assertEqual((kept.run(), bench.run()), (("", ()), ("b", (0,))))
        self.assertEqual(kept.rest(), pair(Fraction(0)))


if __name__ == "__main__":
    unittest.main()

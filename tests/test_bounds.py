"""Points 5.2 and 5.3: ceilings and floors, the greatest and the least rest, the gap."""

import random
import unittest
from fractions import Fraction

from stretchprices.books import book
from stretchprices.bounds import ceiling, fewest, floor, gap, is_ceiling, is_floor, most
from stretchprices.machines import Machine
from stretchprices.rigs import Rig, machine_of
from stretchprices.stretches import Prices, all_stretches
from stretchprices.webs import places
from helpers import (ENOUGH, M, MANY, N, X, all_runs, deep, drawn_machine, drawn_prices, odd_things, pair, raised,
                     slow_price, walk)
from slow_books import made_machine, one_tick_more
from slow_ways import pairs_of, sloping_machine, slow_rests, spoiled_fractions, spoiled_places


def level_prices(rows, width, worth):
    """Prices that are all the same."""
    return Prices(rows, width, {name: pair(worth) for name in all_stretches(rows, width)})


def nearly(prices, seed):
    """The same prices but for those of stretches that begin codes."""
    draw = random.Random(seed)
    table = {name: pair(draw.randint(-50, 50)) if name[0] == "^" else worth for name, worth in prices.table.items()}
    return Prices(prices.rows, prices.width, table)


def cases():
    """Machines with prices: some whose rests have bounds, some whose have one bound or none."""
    for seed in range(40):
        width = 1 + seed % 3
        rows = ("ab", "a", "abc")[seed // 3 % 3] if width < 3 else ("ab", "a")[seed % 2]
        machine = made_machine(seed, width, rows)
        prices = book(machine, width)[0]
        for other in (machine, one_tick_more(seed, machine)):
            yield other, prices
            yield other, nearly(prices, seed)
            yield other, drawn_prices(seed, rows, width)
            yield other, level_prices(rows, width, 0)
            yield other, level_prices(rows, width, 100)
    for seed in range(40):
        rows, answers = ("ab", "abc", "a", "abcd")[seed % 4], 1 + seed % 3
        machine = drawn_machine(seed, rows, answers, 1 + seed % 12, 99)
        yield machine, drawn_prices(seed, rows, 1 + seed % 2)
        yield machine, level_prices(rows, 1 + seed % 3, 50)
        sloping = sloping_machine(seed, rows, answers, 2 + seed % 8)
        found = book(sloping, 1 + seed % 2)
        yield sloping, found[0]
        yield sloping, nearly(found[0], seed)
    for rig in (Rig("abc", 2, (3, 4, 5), (("kept", (0, 1, None), 2, 5),)), Rig("ab", 1, (9, 9), ()),
                Rig("abcd", 3, (1, 2, 3, 4), (("gap", "ac", "bc", 10), ("buffer", "ad", 2, 3)))):
        machine = machine_of(rig)
        for width in (1, 2, 3):
            yield machine, level_prices(rig.rows, width, 6)
            found = book(machine, width)
            if found is not None:
                yield machine, found[0]


class CeilingTest(unittest.TestCase):

    def test_examples(self):
        prices = Prices("ab", 1, {"a": (1, 1), "b": (1, 1)})
        self.assertEqual((ceiling(M, prices), floor(M, prices)), (None, {(0, ""): (0, 1), (1, ""): (0, 1)}))
        prices = Prices("ab", 1, {"a": (2, 1), "b": (3, 2)})
        self.assertEqual((ceiling(M, prices), floor(M, prices)), ({(0, ""): (0, 1), (1, ""): (-1, 2)}, None))
        self.assertEqual(ceiling(N, Prices("ab", 1, {"a": (1, 1), "b": (4, 3)})), {(0, ""): (0, 1)})
        self.assertIsNone(floor(N, Prices("ab", 1, {"a": (1, 1), "b": (4, 3)})))
        exact = book(M, 2)[0]
        self.assertEqual(set(ceiling(M, exact)), {(0, "^"), (0, "a"), (1, "b")})

    def test_one_place_with_rests_of_both_signs(self):
        # The first row takes 5 or 9, all others 7; the price of each is 7.
        machine = Machine("a", 2, ((((5, 1), (9, 1)),), (((7, 1), (7, 1)),)))
        prices = Prices("a", 1, {"a": (7, 1)})
        self.assertEqual(ceiling(machine, prices), {(0, ""): (0, 1), (1, ""): (2, 1)})
        self.assertEqual(floor(machine, prices), {(0, ""): (0, 1), (1, ""): (-2, 1)})
        self.assertEqual((most(machine, prices)[0], fewest(machine, prices)[0]), ((2, 1), (-2, 1)))
        self.assertEqual((most(machine, prices)[1][1][0], fewest(machine, prices)[1][1][0]), (1, 0))
        self.assertEqual(gap(machine, prices), (4, 1))

    def test_against_longest_ways(self):
        kinds = {}
        for machine, prices in cases():
            above, below = slow_rests(machine, prices, 1), slow_rests(machine, prices, -1)
            self.assertEqual(ceiling(machine, prices), above and pairs_of(above))
            self.assertEqual(floor(machine, prices), below and pairs_of(below))
            kind = (above is None, below is None)
            kinds[kind] = kinds.get(kind, 0) + 1
            self.check_extremes(machine, prices, above, below)
        self.assertTrue(all(kinds[at, to] > 20 for at in (True, False) for to in (True, False)), kinds)

    def check_extremes(self, machine, prices, above, below):
        """That most, fewest and gap tell the ends of these rests, and runs that have them."""
        ends = []
        for call, levels, take in ((most, above, max), (fewest, below, min)):
            found = call(machine, prices)
            if levels is None:
                self.assertIsNone(found)
                continue
            bound, run = found
            self.assertEqual(bound, pair(take(levels.values())))
            self.assertEqual(bound, pair(walk(machine, run)[0] - slow_price(prices, run[0])))
            self.assertEqual(len(run[0]), len(run[1]))
            ends.append(Fraction(*bound))
        self.assertEqual(gap(machine, prices), pair(ends[0] - ends[1]) if len(ends) == 2 else None)

    def test_bounds_are_reached_and_no_run_goes_beyond(self):
        for seed in range(24):
            width, rows = 1 + seed % 3, ("ab", "a")[seed % 2]
            machine = made_machine(seed, width, rows)
            prices = nearly(book(machine, width)[0], seed)
            rests = [walk(machine, run)[0] - slow_price(prices, run[0])
                     for run in all_runs(rows, machine.answers, 4 if rows == "ab" else 6)]
            self.assertGreaterEqual(Fraction(*most(machine, prices)[0]), max(rests))
            self.assertLessEqual(Fraction(*fewest(machine, prices)[0]), min(rests))
            self.assertGreaterEqual(Fraction(*gap(machine, prices)), max(rests) - min(rests))

    def test_great_numbers(self):
        big = 10 ** 59 + 7
        for sign in (1, -1):
            prices = Prices("ab", 1, {"a": (sign * big, 3), "b": (sign, big)})
            self.assertEqual(ceiling(N, prices) is None, True)
            self.assertEqual(floor(N, prices) is None, sign > 0)
        prices = Prices("ab", 2, {**{name: (0, 1) for name in all_stretches("ab", 2)}, **{
            name: worth for name, worth in book(M, 2)[0].table.items() if name[0] != "^"}, "^a": (1, big)})
        self.assertEqual(most(M, prices)[0], pair(max(slow_rests(M, prices, 1).values())))
        self.assertEqual(gap(M, prices), pair(max(slow_rests(M, prices, 1).values())
                                              - min(slow_rests(M, prices, -1).values())))

    def test_just_300_places(self):
        machine = machine_of(ENOUGH)
        prices = level_prices("abcd", 3, 20)
        self.assertEqual(floor(machine, prices), pairs_of(slow_rests(machine, prices, -1)))
        self.assertEqual(len(floor(machine, prices)), 300)
        self.assertIsNone(ceiling(machine, prices))
        self.assertTrue(is_floor(machine, prices, (0, 1), floor(machine, prices)))

    def test_dicts_that_a_caller_changes(self):
        prices = book(M, 2)[0]
        for call in (ceiling, floor):
            found = call(M, prices)
            again = dict(found)
            found.clear()
            self.assertEqual(call(M, prices), again)


class ErrorsTest(unittest.TestCase):

    def test_other_rows(self):
        for prices in (drawn_prices(1, "abc"), drawn_prices(1, "a"), drawn_prices(1, "ac")):
            for call in (ceiling, floor, most, fewest, gap):
                self.assertEqual(raised(call, M, prices), ("OtherRows", {}))
            for judge in (is_ceiling, is_floor):
                for bound in ((0, 1), None, True):
                    self.assertEqual(raised(judge, M, prices, bound, None), ("OtherRows", {}))
        many = machine_of(MANY)
        for call in (ceiling, floor, most, fewest, gap):
            self.assertEqual(raised(call, many, drawn_prices(1, "abc", 3)), ("OtherRows", {}))

    def test_no_fraction(self):
        prices = drawn_prices(1)
        for judge in (is_ceiling, is_floor):
            for bound in odd_things() + spoiled_fractions((3, 2)) + spoiled_fractions((0, 1))[:10]:
                self.assertEqual(raised(judge, M, prices, bound, None), ("NoFraction", {}), bound)
            self.assertIsNone(raised(judge, M, prices, (-3, 2), None))

    def test_too_many(self):
        machine = machine_of(MANY)
        for call in (ceiling, floor, most, fewest, gap):
            self.assertEqual(raised(call, machine, drawn_prices(1, "abcd", 3)), ("TooMany", {"most": 300}))
            self.assertIsNone(raised(call, machine, drawn_prices(1, "abcd", 2)))
        for judge in (is_ceiling, is_floor):
            for thing in (None, {}, deep("tuple"), {(0, "^"): (0, 1)}):
                self.assertEqual(raised(judge, machine, drawn_prices(1, "abcd", 3), (1, 1), thing),
                                 ("TooMany", {"most": 300}))
                self.assertEqual(raised(judge, machine, drawn_prices(1, "abcd", 3), 1, thing), ("NoFraction", {}))
                self.assertIs(judge(machine, drawn_prices(1, "abcd", 2), (1, 1), thing), False)


class JudgedTest(unittest.TestCase):

    def refused(self, judge, machine, prices, bound, thing):
        """That a thing is judged False and stays as it was."""
        before = repr(thing)
        self.assertIs(judge(machine, prices, bound, thing), False, thing)
        self.assertEqual(repr(thing), before)

    def bounded(self):
        """Machines, prices, judges, right things, the least bounds for them, and the sign."""
        for machine, prices in list(cases())[::5]:
            for judge, call, sign in ((is_ceiling, ceiling, 1), (is_floor, floor, -1)):
                thing = call(machine, prices)
                if thing is not None:
                    yield machine, prices, judge, thing, max(sign * Fraction(*worth) for worth in thing.values()), sign

    def test_bounds_just_reached(self):
        many = 0
        for machine, prices, judge, thing, bound, sign in self.bounded():
            many += 1
            for more in (0, Fraction(1, 10 ** 9), 1, 10 ** 50):
                self.assertIs(judge(machine, prices, pair(sign * (bound + more)), thing), True)
            for less in (Fraction(1, 10 ** 9), 1, 10 ** 50):
                self.refused(judge, machine, prices, pair(sign * (bound - less)), thing)
        self.assertGreater(many, 60)

    def test_heights_may_be_further(self):
        for machine, prices, judge, thing, bound, sign in self.bounded():
            further = pairs_of({place: Fraction(*worth) + sign * 5 for place, worth in thing.items()})
            self.assertIs(judge(machine, prices, pair(sign * (bound + 5)), further), True)
            nearer = pairs_of({place: Fraction(*worth) - sign * Fraction(1, 3) for place, worth in thing.items()})
            # The place of the empty run is not below 0 (above 0 for a floor).
            start = Fraction(*thing[places(machine, prices.width)[0]])
            self.assertIs(judge(machine, prices, pair(sign * (bound + 5)), nearer), sign * start >= Fraction(1, 3))
            for place in thing:
                # Each of the heights is one that a run has, so that none can be nearer alone.
                self.refused(judge, machine, prices, pair(sign * (bound + 5)), {**thing, place: nearer[place]})

    def test_the_place_of_the_empty_run(self):
        exact = {"aa": (1, 1), "ab": (1, 1), "ba": (2, 1), "bb": (1, 1)}
        prices = Prices("ab", 2, {**exact, "^a": (5, 1), "^b": (5, 1)})
        above = {(0, "^"): (0, 1), (0, "a"): (-4, 1), (1, "b"): (-4, 1)}
        self.assertIs(is_ceiling(M, prices, (0, 1), above), True)
        self.refused(is_ceiling, M, prices, (0, 1), {**above, (0, "^"): (-1, 10 ** 20)})
        self.refused(is_ceiling, M, prices, (-1, 10 ** 20), above)
        prices = Prices("ab", 2, {**exact, "^a": (-5, 1), "^b": (-5, 1)})
        below = {(0, "^"): (0, 1), (0, "a"): (6, 1), (1, "b"): (6, 1)}
        self.assertIs(is_floor(M, prices, (0, 1), below), True)
        self.refused(is_floor, M, prices, (0, 1), {**below, (0, "^"): (1, 10 ** 20)})
        self.refused(is_floor, M, prices, (1, 10 ** 20), below)

    def test_spoiled_things(self):
        for machine, width in ((M, 2), (N, 1), (made_machine(3, 2), 2), (made_machine(4, 3), 3), (X, 1)):
            prices = book(machine, width)[0] if machine != X else level_prices("a", 1, 3)
            for judge, call, sign in ((is_ceiling, ceiling, 1), (is_floor, floor, -1)):
                thing = call(machine, prices)
                bound = (sign * 10 ** 20, 1)
                if thing is None:
                    continue
                self.assertIs(judge(machine, prices, bound, dict(reversed(list(thing.items())))), True)
                for place, worth in thing.items():
                    lacking = {key: thing[key] for key in thing if key != place}
                    self.refused(judge, machine, prices, bound, lacking)
                    for wrong in spoiled_fractions(worth) + [deep("tuple"), deep("dict")]:
                        self.refused(judge, machine, prices, bound, {**thing, place: wrong})
                    for key in spoiled_places(place) + [deep("tuple", ())]:
                        self.refused(judge, machine, prices, bound, {**lacking, key: worth})
                        if key not in thing:
                            self.refused(judge, machine, prices, bound, {**thing, key: worth})

    def test_places_of_another_width(self):
        prices = book(M, 2)[0]
        wider = book(M, 3)[0]
        self.refused(is_ceiling, M, prices, (9, 1), ceiling(M, wider))
        self.refused(is_ceiling, M, wider, (9, 1), ceiling(M, prices))

    def test_no_ceiling_where_a_round_goes_on_rising(self):
        prices = Prices("ab", 1, {"a": (1, 1), "b": (1, 1)})
        for height in (0, 1, 10 ** 30):
            self.refused(is_ceiling, M, prices, (10 ** 40, 1), {(0, ""): (height, 1), (1, ""): (height + 1, 1)})
            self.refused(is_ceiling, M, prices, (10 ** 40, 1), {(0, ""): (height, 1), (1, ""): (height, 1)})

    def test_other_things(self):
        prices = book(M, 2)[0]
        for judge, right in ((is_ceiling, ceiling(M, prices)), (is_floor, floor(M, prices))):
            for thing in odd_things():
                self.refused(judge, M, prices, (0, 1), thing)
                for place in right:
                    self.refused(judge, M, prices, (0, 1), {**right, place: thing})
            self.refused(judge, M, prices, (0, 1), list(right.items()))
            self.refused(judge, M, prices, (0, 1), tuple(right))
            self.refused(judge, M, prices, (0, 1), (right,))


if __name__ == "__main__":
    unittest.main()

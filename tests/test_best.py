"""Point 7.1: best prices and balances."""

import random
import unittest
from fractions import Fraction

from stretchprices.best import balance, best, is_balance
from stretchprices.books import book
from stretchprices.bounds import ceiling, floor, gap, is_ceiling, is_floor
from stretchprices.exact import exact
from stretchprices.machines import Machine
from stretchprices.rigs import Rig, machine_of
from stretchprices.stretches import Prices, all_stretches
from stretchprices.webs import places
from helpers import (ENOUGH, M, MANY, N, X, deep, drawn_machine, drawn_prices, odd_things, pair, raised)
from slow_books import made_machine, one_tick_more
from slow_ways import all_steps, ring_machine, sloping_machine, spoiled_fractions, spoiled_places

NO_WIDTHS = [0, 4, -1, True, False, None, "1", (1,), [1], 10 ** 59]
# The first row takes 5 or 9, all others 7.
UNSURE = Machine("a", 2, ((((5, 1), (9, 1)),), (((7, 1), (7, 1)),)))
# Machines with 16 and 17 places of the width 1.
SIXTEEN = Rig("ab", 2, (9, 9), (("buffer", "a", 3, 1), ("guess", "b", 2, 1)))
SEVENTEEN = Rig("abcd", 1, (1,) * 4, (("kept", (0, 1, 2, 3), 2, 1),))


def gap_of(machine, width, thing):
    """The gap of a balance, or None for what is none, by sums over its steps."""
    steps = all_steps(machine, width)
    totals, counts = [], []
    for flow in thing:
        over = {place: Fraction(0) for place in places(machine, width)}
        over[places(machine, width)[0]] += 1
        total, ended = Fraction(0), {}
        for step, worth in flow.items():
            many = Fraction(*worth)
            if many <= 0 or pair(many) != worth:
                return None
            spent, stretch, there = steps[step]
            over[step[0]] -= many
            over[there] += many
            total += many * spent
            ended[stretch] = ended.get(stretch, 0) + many
        if min(over.values()) < 0:
            return None
        totals.append(total)
        counts.append(ended)
    return totals[0] - totals[1] if counts[0] == counts[1] else None


def small_cases():
    """Machines and widths with at most 16 places, most of them with a book."""
    for seed in range(60):
        width = 1 + seed % 3
        rows = ("ab", "a", "abc")[seed // 3 % 3] if width < 3 else ("ab", "a")[seed % 2]
        machine = made_machine(seed, width, rows)
        yield machine, width
        yield one_tick_more(seed, machine), width
        yield sloping_machine(seed, ("ab", "abc", "a", "abcd")[seed % 4], 1 + seed % 3, 2 + seed % 6), width
        yield drawn_machine(seed, "ab", 1 + seed % 2, 1 + seed % 4, 9), width
    for rig in (Rig("abc", 1, (3, 4, 5), (("kept", (0, 1, None), 2, 5),)), Rig("ab", 1, (9, 9), ()),
                Rig("abc", 1, (9, 9, 9), (("couple", ("ab", "ca"), 3),)), SIXTEEN):
        for width in (1, 2, 3):
            yield machine_of(rig), width


class BestTest(unittest.TestCase):

    def test_examples(self):
        self.assertEqual(best(M, 2)[0], (0, 1))
        self.assertEqual((best(M, 1), balance(M, 1)), (None, None))
        self.assertEqual((best(N, 1)[0], best(N, 1)[1].table), ((0, 1), {"a": (1, 1), "b": (1, 1)}))
        self.assertEqual(best(UNSURE, 1)[0], (4, 1))
        self.assertEqual(best(UNSURE, 2)[0], (4, 1))
        self.assertEqual(gap_of(UNSURE, 1, balance(UNSURE, 1)), 4)
        self.assertEqual(best(X, 3), None)

    def test_best_prices_and_a_balance_prove_each_other(self):
        kinds = {}
        for machine, width in small_cases():
            if len(places(machine, width)) > 16:
                continue
            found, flows = best(machine, width), balance(machine, width)
            none = book(machine, width) is None
            self.assertEqual((found is None, flows is None), (none, none))
            kind = "none" if none else "nothing" if found[0] == (0, 1) else "something"
            kinds[kind] = kinds.get(kind, 0) + 1
            if none:
                continue
            least, prices = found
            self.assertEqual((prices.rows, prices.width), (machine.rows, width))
            self.assertEqual(gap(machine, prices), least)
            self.assertEqual(gap_of(machine, width, flows), Fraction(*least))
            self.assertIs(is_balance(machine, width, least, flows), True)
            if exact(machine, width) is not None:
                self.assertEqual(least, (0, 1))
        self.assertTrue(all(kinds[kind] > 25 for kind in ("none", "nothing", "something")), kinds)

    def test_no_other_prices_are_better(self):
        for seed in range(30):
            width = 1 + seed % 3
            machine = made_machine(seed, width, "ab") if seed % 2 else sloping_machine(seed, "ab", 2, 2 + seed % 4)
            if len(places(machine, width)) > 16:
                continue
            least, prices = best(machine, width)
            others = [drawn_prices(draw, "ab", width) for draw in range(4)] + [book(machine, width)[0]]
            for name in all_stretches("ab", width):
                for more in (1, -1, Fraction(1, 7), -9):
                    table = prices.table
                    table[name] = pair(Fraction(*table[name]) + more)
                    others.append(Prices("ab", width, table))
            for other in others:
                found = gap(machine, other)
                self.assertTrue(found is None or Fraction(*found) >= Fraction(*least))

    def test_nothing_just_where_all_rests_are_alike(self):
        # A gap of 0 means that all rests are that of the empty run.
        for machine, width in small_cases():
            if len(places(machine, width)) > 16 or book(machine, width) is None:
                continue
            self.assertEqual(best(machine, width)[0] == (0, 1), exact(machine, width) is not None)

    def test_wider_is_no_worse(self):
        for seed in range(30):
            machine = sloping_machine(seed, "ab", 1 + seed % 3, 2 + seed % 3)
            gaps = [Fraction(*best(machine, width)[0]) for width in (1, 2, 3) if len(places(machine, width)) <= 16]
            self.assertEqual(gaps, sorted(gaps, reverse=True))

    def test_gap_with_a_bottom(self):
        # The rests of a round rise and fall by parts of a tick.
        self.assertEqual(best(ring_machine((1, 2)), 1)[0], (1, 2))
        self.assertEqual(best(ring_machine((1, 2)), 1)[1].table, {"a": (3, 2)})
        draw = random.Random(6)
        for size in range(1, 12):
            spans = [draw.randint(1, 99) for _ in range(size)]
            rests = [sum(spans[:at]) - at * Fraction(sum(spans), size) for at in range(size)]
            machine = ring_machine(tuple(spans))
            least, prices = best(machine, 1)
            self.assertEqual(least, pair(max(rests) - min(rests)))
            self.assertEqual(prices.table, {"a": pair(Fraction(sum(spans), size))})
            self.assertEqual(gap_of(machine, 1, balance(machine, 1)), Fraction(*least))

    def test_greater_ones(self):
        for seed, (rows, answers, size, width) in enumerate((("abcd", 3, 12, 1), ("abcd", 3, 4, 2), ("ab", 3, 5, 3),
                                                             ("abc", 3, 12, 1), ("abc", 2, 5, 2))):
            machine = sloping_machine(seed, rows, answers, size)
            least, prices = best(machine, width)
            self.assertEqual(gap(machine, prices), least)
            self.assertEqual(gap_of(machine, width, balance(machine, width)), Fraction(*least))

    def test_fact_without_a_book(self):
        # There are balances with gaps as great as one likes: a run there, and lots as often as one likes.
        one, other = {((0, ""), "b", 0): 1, ((1, ""), "a", 0): 1}, {((0, ""), "a", 0): 1, ((1, ""), "b", 0): 1}
        for many in (1, 5, 10 ** 30):
            more = {step: (many, 1) for step in one}
            less = {((0, ""), "a", 0): (many, 1), ((1, ""), "b", 0): (many, 1)}
            self.assertEqual((len(one), len(other), gap_of(M, 1, (more, less))), (2, 2, many))
            self.assertIs(is_balance(M, 1, (many, 1), (more, less)), True)
            self.assertIs(is_balance(M, 1, (many + 1, 1), (more, less)), False)

    def test_dicts_that_a_caller_changes(self):
        found = balance(UNSURE, 1)
        again = (dict(found[0]), dict(found[1]))
        found[0].clear()
        found[1].clear()
        self.assertEqual(balance(UNSURE, 1), again)
        best(UNSURE, 1)[1].table.clear()
        self.assertEqual(best(UNSURE, 1)[0], (4, 1))


class ErrorsTest(unittest.TestCase):

    def test_no_width(self):
        for width in NO_WIDTHS + odd_things():
            for machine in (M, machine_of(MANY)):
                self.assertEqual(raised(best, machine, width), ("NoWidth", {}), width)
                self.assertEqual(raised(balance, machine, width), ("NoWidth", {}), width)
                for bound in ((0, 1), None):
                    self.assertEqual(raised(is_balance, machine, width, bound, ({}, {})), ("NoWidth", {}), width)

    def test_no_fraction(self):
        for bound in odd_things() + spoiled_fractions((3, 2)):
            self.assertEqual(raised(is_balance, M, 1, bound, ({}, {})), ("NoFraction", {}), bound)
            self.assertEqual(raised(is_balance, machine_of(MANY), 3, bound, ({}, {})), ("NoFraction", {}), bound)

    def test_more_than_16_places(self):
        for machine, width, many in ((machine_of(SEVENTEEN), 1, 17), (ring_machine((1,) * 12, "ab"), 2, None),
                                     (machine_of(MANY), 3, None), (machine_of(MANY), 1, None)):
            if many is not None:
                self.assertEqual(len(places(machine, width)), many)
            for call in (best, balance):
                self.assertEqual(raised(call, machine, width), ("TooMany", {"most": 16}))
        self.assertEqual(len(places(machine_of(SIXTEEN), 1)), 16)
        for call in (best, balance):
            self.assertIsNone(raised(call, machine_of(SIXTEEN), 1))

    def test_judging_lets_300_places(self):
        machine = machine_of(SEVENTEEN)
        self.assertIs(is_balance(machine, 1, (0, 1), ({}, {})), True)
        self.assertIs(is_balance(machine, 1, (1, 1), ({}, {})), False)
        self.assertIs(is_balance(machine_of(ENOUGH), 3, (0, 1), ({}, {})), True)
        for thing in (None, ({}, {}), deep("tuple")):
            self.assertEqual(raised(is_balance, machine_of(MANY), 3, (0, 1), thing), ("TooMany", {"most": 300}))


class JudgedTest(unittest.TestCase):

    def refused(self, machine, width, bound, thing):
        """That a thing is judged False and stays as it was."""
        before = repr(thing)
        self.assertIs(is_balance(machine, width, bound, thing), False, thing)
        self.assertEqual(repr(thing), before)

    def balances(self):
        """Machines, widths and balances with flows that are not empty."""
        yield UNSURE, 1, balance(UNSURE, 1)
        yield UNSURE, 2, balance(UNSURE, 2)
        for seed in range(6):
            machine = sloping_machine(seed, "ab", 2, 3 + seed % 3)
            width = 1 + seed % 2
            if len(places(machine, width)) <= 16:
                yield machine, width, balance(machine, width)

    def test_bounds(self):
        many = 0
        for machine, width, thing in self.balances():
            many += 1
            bound = gap_of(machine, width, thing)
            self.assertGreater(bound, 0)
            for less in (0, Fraction(1, 10 ** 9), 1, 2 * bound, 10 ** 50):
                self.assertIs(is_balance(machine, width, pair(bound - less), thing), True)
            for more in (Fraction(1, 10 ** 9), 1, 10 ** 50):
                self.refused(machine, width, pair(bound + more), thing)
            self.refused(machine, width, pair(bound), thing[::-1])
            self.assertIs(is_balance(machine, width, pair(-bound), thing[::-1]), True)
            self.assertIs(is_balance(machine, width, (0, 1), (thing[0], thing[0])), True)
            self.refused(machine, width, (1, 10 ** 50), (thing[1], thing[1]))
        self.assertGreater(many, 5)

    def test_empty_flows(self):
        self.assertIs(is_balance(M, 1, (0, 1), ({}, {})), True)
        self.assertIs(is_balance(M, 1, (-1, 2), ({}, {})), True)
        self.refused(M, 1, (1, 2), ({}, {}))

    def test_drawn_mixtures_of_runs(self):
        # Two runs of each side, with the same code, mixed by fractions.
        draw = random.Random(3)
        for seed in range(60):
            machine = drawn_machine(seed, "ab", 2, 3, 9)
            width = 1 + seed % 2
            flows = []
            codes = ["".join(draw.choice("ab") for _ in range(draw.randint(0, 5))) for _ in range(2)]
            parts = draw.choice([(1, 0), (Fraction(1, 3), Fraction(2, 3)), (Fraction(1, 7), Fraction(1, 2))])
            for _ in range(2):
                flow = {}
                for code, part in zip(codes, parts):
                    self.put_run(machine, width, flow, code, part, draw)
                flows.append({step: pair(worth) for step, worth in flow.items() if worth})
            bound = gap_of(machine, width, flows)
            self.assertIsNotNone(bound)
            self.assertIs(is_balance(machine, width, pair(bound), tuple(flows)), True)
            self.refused(machine, width, pair(bound + Fraction(1, 1000)), tuple(flows))

    def put_run(self, machine, width, flow, code, part, draw):
        """Put a run with this code, answered by chance, into a flow."""
        steps, place = all_steps(machine, width), places(machine, width)[0]
        for row in code:
            step = (place, row, draw.randrange(machine.answers))
            flow[step] = flow.get(step, 0) + part
            place = steps[step][2]

    def test_flows_with_more_than_one_run(self):
        # Twice the first row is more than one run.
        step, other = ((0, ""), "a", 1), ((0, ""), "a", 0)
        self.assertIs(is_balance(UNSURE, 1, (4, 1), ({step: (1, 1)}, {other: (1, 1)})), True)
        self.assertIs(is_balance(UNSURE, 1, (2, 1), ({step: (1, 2)}, {other: (1, 2)})), True)
        self.refused(UNSURE, 1, (4, 1), ({step: (3, 2)}, {other: (3, 2)}))
        self.refused(UNSURE, 1, (0, 1), ({step: (1, 1), other: (1, 3)}, {other: (4, 3)}))
        self.refused(UNSURE, 1, (0, 1), ({step: (1, 1)}, {other: (1, 2)}))
        # Behind the first row there are as many rows as one likes, but none without the first one on either side.
        far = ((1, ""), "a", 0)
        self.assertIs(is_balance(UNSURE, 1, (4, 1), ({step: (1, 1), far: (9, 1)}, {other: (1, 1), far: (9, 1)})), True)
        self.assertIs(is_balance(UNSURE, 1, (2, 1), ({step: (1, 1)}, {far: (1, 1)})), True)
        self.assertIs(is_balance(UNSURE, 1, (0, 1), ({far: (9, 1)}, {far: (9, 1)})), True)

    def test_more_may_not_lead_away_than_there(self):
        chain = Machine("ab", 1, ((((1, 1),), ((1, 0),)), (((2, 0),), ((3, 1),))))
        round_there, loop = {((0, ""), "a", 0): (1, 1), ((1, ""), "a", 0): (1, 1)}, {((0, ""), "b", 0): (1, 1)}
        self.assertEqual(gap_of(chain, 1, (round_there, round_there)), 0)
        self.assertIs(is_balance(chain, 1, (0, 1), (round_there, round_there)), True)
        self.assertIs(is_balance(chain, 1, (0, 1), (loop, loop)), True)
        away = {((1, ""), "a", 0): (1, 1)}
        self.refused(chain, 1, (0, 1), (away, away))
        self.refused(chain, 1, (-10 ** 9, 1), (away, {((0, ""), "a", 0): (1, 1)}))

    def test_spoiled(self):
        for machine, width, thing in self.balances():
            bound = pair(gap_of(machine, width, thing))
            self.assertIs(is_balance(machine, width, bound, thing), True)
            for at in (0, 1):
                for step, worth in list(thing[at].items()):
                    for flow in self.spoiled(thing[at], step, worth):
                        wrong = (flow, thing[1]) if at == 0 else (thing[0], flow)
                        self.refused(machine, width, bound, wrong)
            for wrong in (list(thing), (*thing, {}), thing[:1], (list(thing[0].items()), thing[1]), thing[0],
                          (thing[0], tuple(thing[1])), dict(enumerate(thing)), (thing, thing)):
                self.refused(machine, width, bound, wrong)

    def spoiled(self, flow, step, worth):
        """Flows that are like this one but for this step."""
        top, bottom = worth
        lacking = {key: flow[key] for key in flow if key != step}
        yield lacking
        wrong = spoiled_fractions(worth) + [(0, 1), pair(Fraction(top, bottom) + Fraction(1, 10 ** 9)),
                                            pair(Fraction(top, bottom) * 2), pair(Fraction(top, bottom) / 3)]
        for other in wrong + [deep("tuple"), deep("dict")]:
            yield {**flow, step: other}
        place, row, answer = step
        keys = [(key, row, answer) for key in spoiled_places(place)]
        keys += [(place, "z", answer), (place, row, answer + 5), (place, row, -1), (place, (row,), answer),
                 (place, row, str(answer)), (place, row, None), (place, row), (place, row, answer, 0), place, None, 0,
                 "step", (*place, row, answer), deep("tuple", ())]
        keys += [(place, row, bool(answer))] if answer < 2 else []
        for key in keys:
            yield {**lacking, key: worth}
            if key not in flow:
                yield {**flow, key: (1, 10 ** 9)}
        for wrong in ((0, 1), (-1, 1)):
            yield {**flow, ((1, "a"), row, answer): wrong}

    def test_other_things(self):
        for thing in odd_things():
            self.refused(UNSURE, 1, (-9, 1), thing)
            self.refused(UNSURE, 1, (-9, 1), (thing, thing)) if thing != {} else None
            if thing != {}:
                self.refused(UNSURE, 1, (-9, 1), (thing, {}))
                self.refused(UNSURE, 1, (-9, 1), ({}, thing))
            self.refused(UNSURE, 1, (-9, 1), ({((1, ""), "a", 0): thing}, {((1, ""), "a", 0): thing}))

    def test_flows_of_places_with_other_widths(self):
        thing = balance(UNSURE, 1)
        self.refused(UNSURE, 2, (0, 1), thing)
        self.refused(UNSURE, 1, (0, 1), balance(UNSURE, 2))

    def test_ceilings_and_floors_of_best_prices(self):
        for machine, width, thing in self.balances():
            least, prices = best(machine, width)
            tops, depths = ceiling(machine, prices), floor(machine, prices)
            above = max((Fraction(*worth) for worth in tops.values()))
            self.assertIs(is_ceiling(machine, prices, pair(above), tops), True)
            self.assertIs(is_floor(machine, prices, pair(above - Fraction(*least)), depths), True)
            self.assertEqual(gap_of(machine, width, thing), Fraction(*least))


if __name__ == "__main__":
    unittest.main()

"""Points 10.1 to 10.3: meters, mixtures, lots for them, spreads, and the least meters that tell all."""

import itertools
import random
import unittest
from fractions import Fraction

from stretchprices.machines import Machine, ticks
from stretchprices.meters import (is_meter_lots, least_meters, meter_lots, meter_of, meter_ticks, mixture, reading,
                                  spread)
from stretchprices.rigs import Rig, machine_of
from helpers import M, N, X, all_runs, deep, drawn_machine, drawn_run, odd_things, pair, raised, walk
from slow_books import inner_steps
from slow_ways import all_steps, longest, ring_machine, sloping_machine, spoiled_fractions


def drawn_meter(seed, machine, most=3):
    """A meter that is drawn."""
    draw = random.Random(seed)
    return tuple(tuple(tuple(draw.randint(-most, most) for _ in range(machine.answers)) for _ in machine.rows)
                 for _ in range(machine.size))


def sloped_meter(seed, machine, most=3):
    """A meter that goes on by the height of the standing behind less that of the one ahead: it tells nothing."""
    draw = random.Random(seed)
    height = [draw.randint(-most, most) for _ in range(machine.size)]
    return tuple(tuple(tuple(height[to] - height[here] for _, to in pairs) for pairs in item)
                 for here, item in enumerate(machine.moves))


def summed(machine, parts):
    """The meter that is the sum of meters, each so many times."""
    return tuple(tuple(tuple(sum(many * meter[here][row][answer] for many, meter in parts)
                             for answer in range(machine.answers)) for row in range(len(machine.rows)))
                 for here in range(machine.size))


def goes_on(machine, meter, step):
    """How much a meter goes on in a step."""
    (here, _), row, answer = step
    return meter[here][machine.rows.index(row)][answer]


def slow_reading(machine, meter, run):
    total, here = 0, 0
    for row, answer in zip(*run):
        total += meter[here][machine.rows.index(row)][answer]
        here = walk(machine, (row, (answer,)), here)[1]
    return total


def slow_spread(machine, meter, meters, weights):
    """The least and the greatest difference, by longest ways, or None."""
    parts = [Fraction(*weight) for weight in weights]
    scale = 1
    for part in parts:
        scale *= part.denominator
    ends = []
    for sign in (-1, 1):
        links = [(step[0], int(sign * scale * (goes_on(machine, meter, step) - sum(
            part * goes_on(machine, each, step) for part, each in zip(parts, meters)))), there)
            for step, (_, _, there) in all_steps(machine, 1).items()]
        found = longest(links, (0, ""))
        if found is None:
            return None
        ends.append(pair(Fraction(sign * max(found.values()), scale)))
    return tuple(ends)


def are_meter_lots(machine, meter, meters, thing):
    """Whether two lots of rounds read the same on the meters, and not on the meter, by sums over their steps."""
    inner, sums = inner_steps(machine, 1), []
    for lot in thing:
        over = {}
        for step, many in lot.items():
            if step not in inner or many < 1:
                return False
            over[step[0]] = over.get(step[0], 0) - many
            over[inner[step][2]] = over.get(inner[step][2], 0) + many
        if any(over.values()):
            return False
        sums.append([sum(many * goes_on(machine, each, step) for step, many in lot.items())
                     for each in (meter, *meters)])
    return sums[0][1:] == sums[1][1:] and sums[0][0] != sums[1][0]


def cases():
    """Machines, a meter and meters: some that have a mixture, some that have none."""
    for seed in range(80):
        rows, answers = (("ab", 2), ("a", 1), ("abc", 1), ("a", 3), ("ab", 1))[seed % 5]
        machine = (drawn_machine(seed, rows, answers, 1 + seed % 6, 9) if seed % 3 else
                   sloping_machine(seed, rows, answers, 2 + seed % 5))
        meters = [drawn_meter(seed + at, machine) for at in range(seed % 5)]
        draw = random.Random(seed)
        mixed = summed(machine, [(draw.randint(-3, 3), meter) for meter in meters] + [(1, sloped_meter(seed, machine))])
        yield machine, drawn_meter(seed + 9, machine, 99), meters
        yield machine, mixed, meters
        yield machine, meter_ticks(machine), meters
        if meters:
            # Only half of a meter that is told to be mixed.
            yield machine, meters[0], [summed(machine, [(2, meters[0]), (1, sloped_meter(seed + 1, machine))]),
                                       *meters[1:]]
    for rig in (Rig("abc", 2, (3, 4, 5), (("kept", (0, 1, None), 2, 5),)), Rig("ab", 1, (9, 9), ()),
                Rig("abcd", 3, (1, 2, 3, 4), (("gap", "ac", "bc", 10), ("buffer", "ad", 2, 3)))):
        machine = machine_of(rig)
        yield machine, meter_ticks(machine), [drawn_meter(at, machine) for at in range(3)]
        yield machine, sloped_meter(1, machine, 40), []


class MeterTest(unittest.TestCase):

    def test_ticks(self):
        self.assertEqual(meter_ticks(M), (((1,), (1,)), ((2,), (1,))))
        self.assertEqual(meter_ticks(X), (((1, 2),), ((9, 1),)))
        for seed in range(30):
            machine = drawn_machine(seed, "abc", 1 + seed % 3, 1 + seed % 12, 99)
            draw = random.Random(seed)
            for length in (0, 1, 5, 60):
                run = drawn_run(draw, "abc", machine.answers, length)
                self.assertEqual(reading(machine, meter_ticks(machine), run), ticks(machine, run))

    def test_reading(self):
        draw = random.Random(2)
        for seed in range(60):
            machine = drawn_machine(seed, "ab", 1 + seed % 3, 1 + seed % 12)
            meter = drawn_meter(seed, machine, 99)
            self.assertEqual(reading(machine, meter, ("", ())), 0)
            for length in (1, 2, 3, 50):
                run = drawn_run(draw, "ab", machine.answers, length)
                self.assertEqual(reading(machine, meter, run), slow_reading(machine, meter, run))

    def test_no_meter(self):
        right = (((-99,), (99,)), ((0,), (1,)))
        self.assertEqual(reading(M, right, ("ab", (0, 0))), 0)
        wrong = odd_things() + [right[:1], right + right[:1], list(right), ([(-99,), (99,)], ((0,), (1,))),
                                ([-99], (99,)), (((-99,), [99]), ((0,), (1,))), (((-99,),), ((0,), (1,))),
                                (((-99,), (99,), (1,)), ((0,), (1,))), (((-99, 1), (99, 1)), ((0, 1), (1, 1))),
                                (((), ()), ((), ())), dict(enumerate(right)), ((-99, 99), (0, 1)), (right,)]
        for number in (-100, 100, True, False, None, "1", (1,), [1], (1, 1), 10 ** 59, deep("tuple")):
            wrong += [(((number,), (99,)), ((0,), (1,))), (((-99,), (99,)), ((0,), (number,)))]
        for thing in wrong:
            for run in (("ab", (0, 0)), None):
                self.assertEqual(raised(reading, M, thing, run), ("NoMeter", {}), thing)
            for meters in ([], None):
                for call in (mixture, meter_lots):
                    self.assertEqual(raised(call, M, thing, meters), ("NoMeter", {}), thing)
                self.assertEqual(raised(is_meter_lots, M, thing, meters, None), ("NoMeter", {}), thing)
                self.assertEqual(raised(spread, M, thing, meters, ()), ("NoMeter", {}), thing)
                self.assertEqual(raised(spread, M, thing, meters, None), ("NoMeter", {}), thing)

    def test_no_run(self):
        for thing in odd_things() + [("a", (1,)), ("c", (0,)), ("a", ()), ("a", [0]), ["a", (0,)], ("a", (True,))]:
            self.assertEqual(raised(reading, M, meter_ticks(M), thing), ("NoRun", {}), thing)

    def test_meter_of_another_machine(self):
        self.assertEqual(meter_of(M, N), (((1,), (1,)), ((1,), (1,))))
        self.assertIsNone(meter_of(N, M))
        for machine in (M, N, X):
            self.assertEqual(meter_of(machine, machine), meter_ticks(machine))
        # The standing of a ring of 6 tells that of a ring of 3, and not that of a ring of 4.
        self.assertEqual(meter_of(ring_machine((1,) * 6), ring_machine((7, 8, 9))),
                         tuple(((many,),) for many in (7, 8, 9) * 2))
        self.assertIsNone(meter_of(ring_machine((1,) * 6), ring_machine((7, 8, 9, 10))))
        self.assertIsNone(meter_of(ring_machine((7, 8, 9)), ring_machine((1,) * 6)))

    def test_meter_of_drawn_machines(self):
        kinds = {True: 0, False: 0}
        for seed in range(200):
            one = drawn_machine(seed, "ab", 2, 1 + seed % 5)
            other = drawn_machine(seed + 500, "ab", 2, 1 + seed % 3)
            spots, behind = [(0, 0)], {}
            for here, there in spots:
                behind.setdefault(here, []).append(there)
                for run in all_runs("ab", 2, 1):
                    if run[0] and (walk(one, run, here)[1], walk(other, run, there)[1]) not in spots:
                        spots.append((walk(one, run, here)[1], walk(other, run, there)[1]))
            told = all(len(set(standings)) == 1 for standings in behind.values())
            meter = meter_of(one, other)
            self.assertEqual(meter is not None, told)
            kinds[told] += 1
            if told:
                draw = random.Random(seed)
                for _ in range(5):
                    run = drawn_run(draw, "ab", 2, 9)
                    self.assertEqual(reading(one, meter, run), walk(other, run)[0])
                for here in range(one.size):
                    if here not in behind:
                        self.assertEqual(meter[here], ((0, 0), (0, 0)))
        self.assertGreater(min(kinds.values()), 30)

    def test_standings_to_which_no_run_leads(self):
        one = Machine("a", 1, ((((1, 2),),), (((1, 0),),), (((1, 0),),)))
        self.assertEqual(meter_of(one, ring_machine((7, 8))), (((7,),), ((0,),), ((8,),)))
        self.assertEqual(meter_of(one, one), (((1,),), ((0,),), ((1,),)))

    def test_other_rows(self):
        for other in (drawn_machine(1, "abc", 1), drawn_machine(1, "ab", 2), X, drawn_machine(1, "ac", 1)):
            self.assertEqual(raised(meter_of, M, other), ("OtherRows", {}))
            self.assertEqual(raised(meter_of, other, M), ("OtherRows", {}))


class MixtureTest(unittest.TestCase):

    def test_just_one_of_both(self):
        kinds = {}
        for machine, meter, meters in cases():
            found, apart = mixture(machine, meter, meters), meter_lots(machine, meter, meters)
            self.assertEqual(found is None, apart is not None)
            key = (len(meters), found is None)
            kinds[key] = kinds.get(key, 0) + 1
            if found is not None:
                self.assertEqual((type(found), len(found)), (tuple, len(meters)))
                self.assertIsNotNone(slow_spread(machine, meter, meters, found))
                self.assertEqual(spread(machine, meter, meters, found), slow_spread(machine, meter, meters, found))
            else:
                self.assertTrue(are_meter_lots(machine, meter, meters, apart))
                self.assertIs(is_meter_lots(machine, meter, meters, apart), True)
            self.assertEqual(mixture(machine, meter, tuple(meters)), found)
            self.assertEqual(meter_lots(machine, meter, tuple(meters)), apart)
        self.assertTrue(all(kinds.get((many, none), 0) > 2 for many in range(5) for none in (True, False)), kinds)

    def test_examples(self):
        rows_a, rows_b = (((1,), (0,)),) * 2, (((0,), (1,)),) * 2
        self.assertEqual(mixture(N, meter_ticks(N), [rows_a[:1], rows_b[:1]]), ((1, 1), (1, 1)))
        self.assertIsNone(mixture(M, meter_ticks(M), [rows_a, rows_b]))
        behind_b = (((0,), (0,)), ((1,), (0,)))
        self.assertEqual(mixture(M, meter_ticks(M), [rows_a, rows_b, behind_b]), ((1, 1), (1, 1), (1, 1)))
        self.assertEqual(spread(M, meter_ticks(M), [rows_a, rows_b, behind_b], ((1, 1),) * 3), ((0, 1), (0, 1)))
        self.assertEqual(mixture(ring_machine((1, 2)), (((3,),), ((4,),)), [(((1,),), ((4,),))]), ((7, 5),))

    def test_no_meters(self):
        for machine in (M, X, drawn_machine(3)):
            self.assertIsNone(mixture(machine, meter_ticks(machine), []))
            self.assertEqual(mixture(machine, sloped_meter(1, machine), ()), ())
            one, other = meter_lots(machine, meter_ticks(machine), ())
            self.assertTrue(are_meter_lots(machine, meter_ticks(machine), [], (one, other)))

    def test_the_same_meter_twice(self):
        for seed in range(10):
            machine = drawn_machine(seed, "ab", 2, 3)
            meter = drawn_meter(seed, machine)
            found = mixture(machine, meter, [meter, meter])
            self.assertIsNotNone(spread(machine, meter, [meter, meter], found))

    def test_spread(self):
        kinds = {True: 0, False: 0}
        for at, (machine, meter, meters) in enumerate(cases()):
            draw = random.Random(at)
            for _ in range(2):
                weights = tuple(pair(Fraction(draw.randint(-4, 4), draw.randint(1, 4))) for _ in meters)
                found = spread(machine, meter, meters, weights)
                self.assertEqual(found, slow_spread(machine, meter, meters, weights))
                kinds[found is None] += 1
                self.assertEqual(spread(machine, meter, tuple(meters), weights), found)
        self.assertGreater(min(kinds.values()), 20)

    def test_spread_lies_about_all_differences(self):
        for seed in range(30):
            machine = drawn_machine(seed, "ab", 2, 1 + seed % 5)
            first, slope = drawn_meter(seed, machine), sloped_meter(seed, machine, 20)
            meter = summed(machine, [(3, first), (1, slope)])
            least, greatest = [Fraction(*end) for end in spread(machine, meter, [first], ((3, 1),))]
            seen = [slow_reading(machine, slope, run) for run in all_runs("ab", 2, 4)]
            self.assertTrue(least <= min(seen) <= 0 <= max(seen) <= greatest)
            self.assertIsNone(spread(machine, meter_ticks(machine), [first], ((0, 1),)))

    def test_one_side_is_not_enough(self):
        ups = (((1,), (0,)),)
        self.assertIsNone(spread(N, ups, [], ()))
        self.assertIsNone(spread(N, ups, [ups], ((2, 1),)))
        self.assertEqual(spread(N, ups, [ups], ((1, 1),)), ((0, 1), (0, 1)))

    def test_no_meters_as_named(self):
        meter = meter_ticks(M)
        wrong = [thing for thing in odd_things() if thing != [] and thing != ()]
        wrong += [[meter] * 5, (meter,) * 5, [meter, None], (meter, meter_ticks(X)), meter, {0: meter}, [[meter]],
                  [list(meter)], ([((1,), (1,)), ((2,), (1,))],), [(((True,), (1,)), ((2,), (1,)))],
                  [(((100,), (1,)), ((2,), (1,)))], [(((-100,), (1,)), ((2,), (1,)))], "meters"]
        for thing in wrong:
            for call in (mixture, meter_lots):
                self.assertEqual(raised(call, M, meter, thing), ("NoMeters", {}), thing)
            self.assertEqual(raised(is_meter_lots, M, meter, thing, None), ("NoMeters", {}), thing)
            for weights in ((), None, ((1, 1),)):
                self.assertEqual(raised(spread, M, meter, thing, weights), ("NoMeters", {}), thing)
            self.assertEqual(raised(least_meters, M, thing), ("NoMeters", {}), thing)
        for meters in ([], (), [meter], (meter,) * 4, [meter] * 4):
            self.assertIsNone(raised(mixture, M, meter, meters))

    def test_no_weights(self):
        meter = meter_ticks(M)
        for meters, many in (([], 0), ([meter], 1), ((meter, meter), 2)):
            right = ((1, 2),) * many
            self.assertIsNone(raised(spread, M, meter, meters, right))
            wrong = [list(right), right + ((0, 1),), dict.fromkeys(right), "1" * many]
            wrong += [right[1:], ([1, 2],) * many] if many else []
            wrong += [right[1:] + (worth,) for worth in spoiled_fractions((3, 2)) + [None, deep("tuple")] if many]
            wrong += [thing for thing in odd_things() if thing != ()]
            for thing in wrong:
                self.assertEqual(raised(spread, M, meter, meters, thing), ("NoWeights", {}), thing)


class LotsTest(unittest.TestCase):

    def refused(self, machine, meter, meters, thing):
        """That a thing is judged False and stays as it was."""
        before = repr(thing)
        self.assertIs(is_meter_lots(machine, meter, meters, thing), False, thing)
        self.assertEqual(repr(thing), before)

    def told(self):
        """Machines, meters and lots that show that there is no mixture."""
        for machine, meter, meters in list(cases())[::7]:
            apart = meter_lots(machine, meter, meters)
            if apart is not None:
                yield machine, meter, meters, apart

    def test_let(self):
        many = 0
        for machine, meter, meters, apart in self.told():
            many += 1
            for thing in (apart, apart[::-1], tuple({step: 5 * lot[step] for step in lot} for lot in apart)):
                self.assertIs(is_meter_lots(machine, meter, meters, thing), True)
            self.assertIs(is_meter_lots(machine, meter, tuple(meters), apart), True)
            self.refused(machine, meter, meters, (apart[0], apart[0]))
            self.refused(machine, meter, meters, ({}, {}))
            self.refused(machine, meter, [*meters[:3], meter], apart)
            self.refused(machine, sloped_meter(1, machine), meters, apart)
        self.assertGreater(many, 15)

    def test_unlike_readings_of_a_meter(self):
        one, other = {((0, ""), "a", 0): 1}, {((0, ""), "b", 0): 1}
        ups, downs = (((1,), (0,)),), (((2,), (1,)),)
        self.assertIs(is_meter_lots(N, ups, [], (one, other)), True)
        self.assertIs(is_meter_lots(N, ups, [(((3,), (3,)),)], (one, other)), True)
        self.refused(N, ups, [downs], (one, other))
        self.refused(N, ups, [(((3,), (3,)),), downs], (one, other))
        self.refused(N, (((4,), (4,)),), [], (one, other))
        # A lot in which all read 0, and the empty one.
        self.assertIs(is_meter_lots(N, ups, [(((0,), (5,)),)], (one, {})), True)
        self.assertIs(is_meter_lots(N, ups, [(((0,), (5,)),)], ({}, one)), True)
        self.refused(N, ups, [(((0,), (5,)),)], ({}, other))

    def test_steps_between_pieces(self):
        machine = Machine("ab", 1, ((((1, 0),), ((5, 1),)), (((2, 1),), ((2, 1),))))
        right = ({((0, ""), "a", 0): 1}, {((1, ""), "a", 0): 1})
        self.assertIs(is_meter_lots(machine, meter_ticks(machine), [], right), True)
        self.refused(machine, meter_ticks(machine), [], ({**right[0], ((0, ""), "b", 0): 1}, right[1]))

    def test_spoiled(self):
        for machine, meter, meters, apart in list(self.told())[::3]:
            for wrong in (list(apart), (*apart, {}), apart[:1], dict(enumerate(apart)), (apart, apart),
                          (list(apart[0].items()), apart[1])):
                self.refused(machine, meter, meters, wrong)
            for at in (0, 1):
                for step, many in apart[at].items():
                    for lot in self.spoiled(apart[at], step, many):
                        self.refused(machine, meter, meters, (lot, apart[1]) if at == 0 else (apart[0], lot))
        for thing in odd_things():
            self.refused(M, meter_ticks(M), [], thing)
            self.refused(M, meter_ticks(M), [], (thing, thing))
            if thing != {}:
                self.refused(M, meter_ticks(M), [], (thing, {}))
                self.refused(M, meter_ticks(M), [], ({((0, ""), "a", 0): 1}, thing))

    def spoiled(self, lot, step, many):
        """Lots that are like this one but for this step."""
        lacking = {key: lot[key] for key in lot if key != step}
        for number in (0, -many, True, False, None, (many,), [many], str(many), (many, 1), deep("list")):
            yield {**lot, step: number}
        (here, tail), row, answer = step
        others = [((here, tail), row, answer + 5), ((here, tail), row, -1), ((here, tail), "z", answer), (here, tail),
                  ((here + 50, tail), row, answer), ((here, "^"), row, answer), ((here, tail), row), None, 0, "step",
                  ((here, tail), row, answer, 0), (here, row, answer), ((str(here), tail), row, answer),
                  ((here, tail), row, str(answer)), ((here, tail), row, None), deep("tuple", ())]
        others += [((bool(here), tail), row, answer)] if here < 2 else []
        others += [((here, tail), row, bool(answer))] if answer < 2 else []
        for other in others:
            yield {**lacking, other: many}
            if other not in lot:
                yield {**lot, other: 1}

    def test_dicts_that_a_caller_changes(self):
        found = meter_lots(M, meter_ticks(M), [])
        again = (dict(found[0]), dict(found[1]))
        found[0].clear()
        found[1].clear()
        self.assertEqual(meter_lots(M, meter_ticks(M), []), again)


class LeastTest(unittest.TestCase):

    def slow(self, machine, meters):
        """All lots that are enough and of which no lesser one is, by mixtures and by all lots."""
        lots = [lot for many in range(len(meters) + 1) for lot in itertools.combinations(range(len(meters)), many)]
        enough = [lot for lot in lots if all(
            meter_lots(machine, meter, [meters[at] for at in lot]) is None for meter in meters)]
        return sorted(lot for lot in enough if not any(set(other) < set(lot) for other in enough))

    def test_against_all_lots(self):
        seen = set()
        for seed in range(60):
            machine = drawn_machine(seed, ("ab", "a", "abc")[seed % 3], 1 + seed % 2, 1 + seed % 5)
            first, second = drawn_meter(seed, machine), drawn_meter(seed + 100, machine)
            pool = [first, second, summed(machine, [(1, first), (2, second)]), summed(machine, [(5, first)]),
                    sloped_meter(seed, machine), drawn_meter(seed + 7, machine), meter_ticks(machine),
                    summed(machine, [(1, second), (1, sloped_meter(seed + 3, machine))]), meter_ticks(machine)]
            draw = random.Random(seed)
            for many in range(5):
                meters = [draw.choice(pool) for _ in range(many)]
                found = least_meters(machine, meters)
                self.assertEqual(found, self.slow(machine, meters))
                self.assertEqual(least_meters(machine, tuple(meters)), found)
                self.assertEqual(len({len(lot) for lot in found}), 1)
                seen.add((many, len(found)))
        self.assertGreater(len(seen), 8)

    def test_examples(self):
        self.assertEqual(least_meters(M, []), [()])
        self.assertEqual(least_meters(M, ()), [()])
        ups, both = (((1,), (0,)),), (((1,), (1,)),)
        down = (((0,), (-7,)),)
        self.assertEqual(least_meters(N, [ups, both, down]), [(0, 1), (0, 2), (1, 2)])
        self.assertEqual(least_meters(N, [ups, ups, (((-3,), (0,)),)]), [(0,), (1,), (2,)])
        self.assertEqual(least_meters(N, [(((0,), (0,)),)]), [()])
        self.assertEqual(least_meters(N, [(((0,), (0,)),), ups]), [(1,)])
        # No rounds tell these meters from nothing.
        self.assertEqual(least_meters(M, [sloped_meter(1, M), sloped_meter(2, M)]), [()])

    def test_exchange(self):
        for seed in range(20):
            machine = drawn_machine(seed, "ab", 2, 3)
            meters = [drawn_meter(seed + at, machine, 1) for at in range(4)]
            found = least_meters(machine, meters)
            for one in found:
                for other in found:
                    for number in one:
                        self.assertTrue(any(tuple(sorted(set(other) - {gone} | {number})) in found for gone in other))

    def test_lists_that_a_caller_changes(self):
        found = least_meters(M, [meter_ticks(M)])
        again = list(found)
        found.clear()
        self.assertEqual(least_meters(M, [meter_ticks(M)]), again)
        meters = [meter_ticks(M)]
        least_meters(M, meters)
        mixture(M, meter_ticks(M), meters)
        self.assertEqual(meters, [meter_ticks(M)])


if __name__ == "__main__":
    unittest.main()

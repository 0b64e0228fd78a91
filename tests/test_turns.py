"""Point 10.4: turns and rests of a meter's readings."""

import math
import unittest

from stretchprices.machines import Machine
from stretchprices.meters import meter_ticks
from stretchprices.rigs import Rig, machine_of
from stretchprices.turns import parting_rests, rests, turns
from helpers import M, N, X, all_runs, drawn_machine, odd_things, raised, walk
from slow_ways import ring_machine
from test_meters import drawn_meter, sloped_meter, slow_reading, summed


def readings(machine, meter):
    """All readings of runs of at most one row more than there are standings, by the standings to which they lead."""
    found = {}
    for run in all_runs(machine.rows, machine.answers, machine.size + 1):
        found.setdefault(walk(machine, run)[1], set()).add(slow_reading(machine, meter, run))
    return found


def slow_turns(machine, meter):
    """What divides all differences of readings of runs to one standing."""
    return math.gcd(*(one - other for lot in readings(machine, meter).values() for one in lot for other in lot))


def times(machine, meter, many):
    return summed(machine, [(many, meter)])


def cases():
    """Machines and meters whose turns are 0, 1 and greater ones."""
    for seed in range(60):
        rows, answers, size = (("ab", 2, 3), ("a", 1, 5), ("abc", 1, 3), ("a", 3, 4), ("ab", 1, 4))[seed % 5]
        machine = drawn_machine(seed, rows, answers, size)
        yield machine, drawn_meter(seed, machine)
        yield machine, sloped_meter(seed, machine, 30)
        for many in (2, 6, 7, 12):
            grown = times(machine, drawn_meter(seed, machine), many)
            yield machine, grown
            yield machine, summed(machine, [(1, grown), (1, sloped_meter(seed + 1, machine))])
    for machine in (M, N, X, ring_machine((1, 2, 3)), ring_machine((5, 5, 5, 6), "ab", 1)):
        yield machine, meter_ticks(machine)


class TurnsTest(unittest.TestCase):

    def test_example(self):
        self.assertEqual(turns(M, meter_ticks(M)), 1)

    def test_turns_against_differences(self):
        seen = {}
        for machine, meter in cases():
            found = turns(machine, meter)
            self.assertIs(type(found), int)
            self.assertEqual(found, slow_turns(machine, meter))
            seen[found] = seen.get(found, 0) + 1
        for many in (0, 1, 2, 6, 7, 12):
            self.assertGreater(seen[many], 5, seen)

    def test_a_ring_tells_its_round(self):
        # A reading is told but for the rounds, of 6 ticks each.
        ring = ring_machine((1, 2, 3))
        self.assertEqual(turns(ring, meter_ticks(ring)), 6)
        self.assertEqual(rests(ring, meter_ticks(ring), 6), {0: 0, 1: 1, 2: 3})
        self.assertEqual(rests(ring, meter_ticks(ring), 3), {0: 0, 1: 1, 2: 0})
        self.assertEqual(rests(ring, meter_ticks(ring), 1), {0: 0, 1: 0, 2: 0})
        self.assertIsNone(rests(ring, meter_ticks(ring), 12))
        self.assertIsNone(rests(ring, meter_ticks(ring), 4))

    def test_readings_below_zero(self):
        ring = ring_machine((1, 1, 1))
        meter = (((-5,),), ((3,),), ((-5,),))
        self.assertEqual(turns(ring, meter), 7)
        self.assertEqual(rests(ring, meter, 7), {0: 0, 1: 2, 2: 5})

    def test_heights_are_told_with_any_number(self):
        machine = Machine("a", 2, ((((1, 1), (2, 0)),), (((9, 0), (1, 0)),)))
        meter = (((5, 0),), ((-5, -5),))
        self.assertEqual(turns(machine, meter), 0)
        for m in (1, 2, 3, 7, 10 ** 30 - 1, 10 ** 30):
            self.assertEqual(rests(machine, meter, m), {0: 0, 1: 5 % m})
            self.assertIsNone(parting_rests(machine, meter, m))

    def test_great_numbers(self):
        ring = ring_machine((99, 99))
        self.assertIsNone(rests(ring, meter_ticks(ring), 10 ** 30))
        self.assertIsNotNone(parting_rests(ring, meter_ticks(ring), 10 ** 30))
        negative = (((-99,),), ((99,),))
        self.assertEqual(rests(ring, negative, 10 ** 30), {0: 0, 1: 10 ** 30 - 99})

    def test_rests_exactly_for_divisors(self):
        kinds = {True: 0, False: 0}
        for machine, meter in cases():
            lots = readings(machine, meter)
            common = slow_turns(machine, meter)
            for m in (1, 2, 3, 4, 6, 7, 12, 14, 24, 10 ** 30):
                found, parted = rests(machine, meter, m), parting_rests(machine, meter, m)
                told = common % m == 0
                kinds[told] += 1
                self.assertEqual(found is not None, told)
                self.assertEqual(parted is None, told)
                if told:
                    self.assertEqual(found, {here: min(lots[here]) % m for here in lots})
                    self.assertTrue(all(type(rest) is int and 0 <= rest < m for rest in found.values()))
                else:
                    self.check_parted(machine, meter, m, parted)
        self.assertGreater(min(kinds.values()), 500)

    def check_parted(self, machine, meter, m, parted):
        self.assertIs(type(parted), tuple)
        one, other = parted
        self.assertEqual(walk(machine, one)[1], walk(machine, other)[1])
        self.assertNotEqual(slow_reading(machine, meter, one) % m, slow_reading(machine, meter, other) % m)
        for code, told in parted:
            self.assertIs(type(told), tuple)
            self.assertEqual(len(code), len(told))
            self.assertTrue(set(code) <= set(machine.rows) and set(told) <= set(range(machine.answers)))

    def test_standings_to_which_no_run_leads(self):
        machine = Machine("a", 1, ((((1, 2),),), (((1, 0),),), (((1, 0),),)))
        # The meter goes on by no even number only where no run leads.
        meter = (((2,),), ((1,),), ((4,),))
        self.assertEqual(turns(machine, meter), 6)
        self.assertEqual(rests(machine, meter, 6), {0: 0, 2: 2})
        self.assertEqual(rests(machine, meter, 2), {0: 0, 2: 0})

    def test_machines_of_many_standings(self):
        rig = Rig("abcd", 2, (3, 4, 5, 6), (("kept", (0, 1, 2, 3), 2, 5), ("guess", "ab", 1, 7)))
        machine = machine_of(rig)
        self.assertGreater(machine.size, 12)
        for many in (1, 3, 5):
            self.assertEqual(turns(machine, times(machine, drawn_meter(many, machine), many)) % many, 0)
        told = rests(machine, sloped_meter(4, machine, 40), 10 ** 6)
        self.assertEqual(set(told), set(range(machine.size)))

    def test_no_meter_ahead_of_no_number(self):
        right = meter_ticks(M)
        wrong = odd_things() + [right[:1], list(right), (((True,), (1,)), ((2,), (1,))), (((100,), (1,)), ((2,), (1,)))]
        for thing in wrong:
            self.assertEqual(raised(turns, M, thing), ("NoMeter", {}), thing)
            for m in (1, 0, None):
                for call in (rests, parting_rests):
                    self.assertEqual(raised(call, M, thing, m), ("NoMeter", {}), thing)

    def test_no_number(self):
        things = [thing for thing in odd_things() if thing != 1 or thing is True]
        for thing in things + [0, -1, 10 ** 30 + 1, -10 ** 30, "1", (1,), [1], b"1", (1, 1)]:
            for call in (rests, parting_rests):
                self.assertEqual(raised(call, M, meter_ticks(M), thing), ("NoNumber", {}), thing)
        for m in (1, 10 ** 30):
            for call in (rests, parting_rests):
                self.assertIsNone(raised(call, M, meter_ticks(M), m))

    def test_new_dicts(self):
        ring = ring_machine((1, 2, 3))
        meter = meter_ticks(ring)
        one = rests(ring, meter, 6)
        one[0] = "spoiled"
        self.assertEqual(rests(ring, meter, 6), {0: 0, 1: 1, 2: 3})
        self.assertEqual(meter, meter_ticks(ring_machine((1, 2, 3))))

    def test_equal_calls_have_equal_answers(self):
        for seed in range(20):
            one, other = [drawn_machine(seed, "ab", 2, 3) for _ in range(2)]
            meter, same = [drawn_meter(seed, machine) for machine in (one, other)]
            self.assertEqual(parting_rests(one, meter, 5), parting_rests(other, same, 5))


if __name__ == "__main__":
    unittest.main()

"""Point 1.4: machines that are alike, where they part, and the smallest ones."""

import random
import unittest

from stretchprices.machines import Machine, alike, parting, smallest, standing
from stretchprices.rigs import Rig, machine_of
from helpers import M, N, X, all_runs, drawn_machine, raised, walk


def slow_parting(one, other, most):
    for run in all_runs(one.rows, one.answers, most):
        if walk(one, run)[0] != walk(other, run)[0]:
            return run
    return None


def shuffled(draw, machine):
    """An alike machine: standings doubled, further ones to which no run leads, and other numbers."""
    size = machine.size
    names = list(range(1, 2 * size + 1))
    draw.shuffle(names)
    names[names.index(1)], names[0] = names[0], 1
    names = [name - 1 for name in names] + [2 * size]
    items = {}
    for here in range(2 * size):
        items[names[here]] = tuple(
            tuple((spent, names[there + size * draw.randrange(2)]) for spent, there in pairs)
            for pairs in machine.moves[here % size])
    items[2 * size] = tuple(tuple((7, names[0]) for _ in pairs) for pairs in machine.moves[0])
    return Machine(machine.rows, machine.answers, tuple(items[here] for here in range(2 * size + 1)))


def late(length, last):
    """A machine of one row that takes other ticks only at the last of so many standings."""
    moves = [(((1, here + 1),),) for here in range(length - 1)]
    return Machine("a", 1, tuple(moves) + ((((last, 0),),),))


def turning(one, other):
    """Two machines of one row that go round in so many standings, and agree as long as they can."""
    agree = one + other - 2
    marks = list(range(agree))
    for _ in range(agree):
        for at in range(agree):
            marks[at] = min(marks[k] for k in (at - one, at, at + one, at - other, at + other) if 0 <= k < agree)
    machines = []
    for size in (one, other):
        spans = [1 + (marks[at] > 0) if at < agree else 3 for at in range(size)]
        machines.append(Machine("a", 1, tuple((((spans[at], (at + 1) % size),),) for at in range(size))))
    return machines


class PartingTest(unittest.TestCase):

    def test_examples(self):
        self.assertEqual(parting(M, N), ("ba", (0, 0)))
        self.assertFalse(alike(M, N))
        self.assertIs(alike(M, M), True)
        self.assertIsNone(parting(X, X))

    def test_drawn_ones_against_all_runs(self):
        unlike = 0
        for seed in range(300):
            rows, answers = (("ab", 1), ("a", 3), ("ab", 2), ("abc", 1))[seed % 4]
            one = drawn_machine(seed, rows, answers, 1 + seed % 3, 2)
            other = drawn_machine(seed + 1000, rows, answers, 1 + seed % 2, 2)
            expected = slow_parting(one, other, 4)
            self.assertEqual(parting(one, other), expected)
            self.assertEqual(parting(other, one), expected)
            self.assertEqual(alike(one, other), expected is None)
            unlike += expected is not None
        self.assertGreater(unlike, 100)

    def test_one_move_changed(self):
        draw = random.Random(5)
        for seed in range(100):
            one = drawn_machine(seed, "ab", 2, 3, 2)
            moves = [[list(pairs) for pairs in item] for item in one.moves]
            here, at, answer = draw.randrange(3), draw.randrange(2), draw.randrange(2)
            spent, there = moves[here][at][answer]
            moves[here][at][answer] = (spent + 1, there) if seed % 2 else (spent, draw.randrange(3))
            other = Machine("ab", 2, tuple(tuple(tuple(pairs) for pairs in item) for item in moves))
            self.assertEqual(parting(one, other), slow_parting(one, other, 5))

    def test_code_is_compared_ahead_of_answers(self):
        # Two runs of two rows part these: "ab" by answers 0, 0 and "aa" by answers 1, 0; the less code is earlier.
        base = (((1, 1), (1, 2)), ((1, 3), (1, 3)))
        flat = tuple(((1, 3), (1, 3)) for _ in "ab")
        one = Machine("ab", 2, (base, (((1, 3), (1, 3)), ((2, 3), (1, 3))), (((2, 3), (1, 3)), ((1, 3), (1, 3))), flat))
        other = Machine("ab", 2, (flat[:1] * 2, flat, flat, flat))
        self.assertEqual(parting(one, other), ("aa", (1, 0)))

    def test_only_a_long_run_parts(self):
        for one, other in ((1, 1), (2, 3), (5, 7), (11, 12)):
            first, second = late(one, 2), late(other, 2)
            expected = None if one == other else ("a" * one, (0,) * one)
            self.assertEqual(parting(first, second), expected)
        for one, other in ((2, 3), (5, 7), (11, 12)):
            agree = one + other - 2
            self.assertEqual(parting(*turning(one, other)), ("a" * (agree + 1), (0,) * (agree + 1)))

    def test_machines_of_rigs(self):
        parts = (("guess", "a", 2, 3), ("kept", (0, 1), 1, 2), ("gap", "a", "ab", 1))
        one = machine_of(Rig("ab", 3, (1, 2), parts))
        self.assertTrue(alike(one, machine_of(Rig("ab", 3, (1, 2), parts[::-1]))))
        other = machine_of(Rig("ab", 3, (1, 2), (("guess", "a", 1, 3),) + parts[1:]))
        self.assertEqual(parting(one, other), slow_parting(one, other, 3))

    def test_other_rows(self):
        for one, other in ((M, X), (M, drawn_machine(0)), (M, Machine("ac", 1, M.moves)), (X, N)):
            for call in (alike, parting):
                self.assertEqual(raised(call, one, other), ("OtherRows", {}))
                self.assertEqual(raised(call, other, one), ("OtherRows", {}))


class SmallestTest(unittest.TestCase):

    def check(self, machine, most):
        small = smallest(machine)
        self.assertEqual((small.rows, small.answers), (machine.rows, machine.answers))
        self.assertTrue(alike(machine, small))
        self.assertIsNone(slow_parting(machine, small, most))
        self.assertEqual(smallest(small), small)
        # All standings are reached, in the order of the earliest runs, and no two of them are alike.
        seen = []
        for run in all_runs(small.rows, small.answers, most):
            here = standing(small, run)
            if here not in seen:
                seen.append(here)
        self.assertEqual(seen, list(range(small.size)))
        marks = {tuple(walk(small, run, here)[0] for run in all_runs(small.rows, small.answers, most))
                 for here in range(small.size)}
        self.assertEqual(len(marks), small.size)
        return small

    def test_examples(self):
        for machine in (M, N, X):
            self.assertEqual(smallest(machine), machine)
        self.assertEqual(smallest(Machine("ab", 1, M.moves + M.moves)), M)
        double = Machine("a", 1, ((((3, 1),),), (((3, 2),),), (((3, 1),),)))
        self.assertEqual(smallest(double), Machine("a", 1, ((((3, 0),),),)))

    def test_standings_to_which_no_run_leads(self):
        machine = Machine("a", 1, ((((1, 2),),), (((9, 0),),), (((2, 2),),)))
        self.assertEqual(smallest(machine), Machine("a", 1, ((((1, 1),),), (((2, 1),),))))

    def test_drawn_ones(self):
        for seed in range(60):
            self.check(drawn_machine(seed, "ab", 1, 4, 2), 7)
            self.check(drawn_machine(seed, "ab", 2, 3, 2), 4)

    def test_doubled_standings(self):
        draw = random.Random(3)
        for seed in range(60):
            machine = drawn_machine(seed, "ab", 1 + seed % 3, 1 + seed % 5, 3)
            twice = shuffled(draw, machine)
            self.assertTrue(alike(machine, twice))
            self.assertEqual(smallest(machine), smallest(twice))

    def test_numbers_by_code_ahead_of_answers(self):
        # "aa" with answers 1, 0 is earlier than "ab" with answers 0, 0.
        ends = [(((spent, 5),) * 2,) * 2 for spent in (3, 4, 5)]
        machine = Machine("ab", 2, (
            (((1, 1), (1, 2)), ((1, 5), (1, 5))),
            (((1, 5), (1, 5)), ((1, 3), (1, 5))),
            (((1, 4), (1, 5)), ((2, 5), (2, 5))),
            *ends))
        small = self.check(machine, 4)
        self.assertEqual(standing(small, ("aa", (0, 0))), 3)
        self.assertEqual(standing(small, ("aa", (1, 0))), 4)
        self.assertEqual(standing(small, ("ab", (0, 0))), 5)

    def test_more_than_twelve_standings(self):
        machine = machine_of(Rig("abcd", 1, (1, 1, 1, 1), (("kept", (0, 1, 2, 3), 2, 1),)))
        small = smallest(machine)
        self.assertTrue(alike(machine, small))
        self.assertEqual(smallest(small), small)
        # Which of two kept lines was touched last matters, as the other one goes next.
        self.assertEqual(small.size, 17)


if __name__ == "__main__":
    unittest.main()

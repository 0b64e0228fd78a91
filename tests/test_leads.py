"""Points 8.1 and 8.2: leads, and one machine ahead of another one."""

import random
import unittest

from stretchprices.leads import ahead, is_lead_paper, lead
from stretchprices.machines import Machine
from stretchprices.rigs import Rig, machine_of
from helpers import M, N, X, all_runs, deep, drawn_machine, odd_things, raised, walk
from slow_ways import longest, pair_links, ring_machine, same, sloping_machine, spoiled_integers


def slow_lead(one, other, start):
    """The greatest differences of ticks for all pairs of standings behind the start, or None."""
    links = pair_links(one, other, start, same(one.answers))
    return longest([(pair, spent - other_spent, to) for pair, _, spent, other_spent, to in links], start)


def beside(one, other):
    """A machine that has the standings of two machines, and where those of the other one begin."""
    moved = tuple(tuple(tuple((spent, to + one.size) for spent, to in pairs) for pairs in item) for item in other.moves)
    return Machine(one.rows, one.answers, one.moves + moved), one.size


class ToldTest(unittest.TestCase):

    def check(self, one, other, start, told):
        """That this is told right; whether there is a greatest lead."""
        levels = slow_lead(one, other, start)
        self.assertIs(type(told), tuple)
        if levels is not None:
            self.assertEqual(told[:2], ("most", max(levels.values())))
            run = told[2]
            self.assertEqual(walk(one, run, start[0])[0] - walk(other, run, start[1])[0], told[1])
            self.assertEqual(len(told), 3)
            return True
        word, run, circle = told
        self.assertEqual(word, "round")
        self.assertNotEqual(circle[0], "")
        here, there = walk(one, run, start[0])[1], walk(other, run, start[1])[1]
        spent, to = walk(one, circle, here)
        other_spent, other_to = walk(other, circle, there)
        self.assertEqual((to, other_to), (here, there))
        self.assertGreater(spent, other_spent)
        return False


class LeadTest(ToldTest):

    def test_examples(self):
        self.assertEqual(lead(M, 1, 0)[:2], ("most", 1))
        self.assertEqual(lead(M, 0, 1)[:2], ("most", 0))
        self.assertEqual(ahead(M, N)[0], "round")
        self.assertEqual(ahead(N, M)[:2], ("most", 0))
        self.assertEqual((lead(X, 0, 1)[:2], lead(X, 1, 0)[:2]), (("most", 1), ("most", 9)))

    def test_drawn_ones(self):
        kinds = {True: 0, False: 0}
        for seed in range(90):
            rows, answers = (("ab", 2), ("a", 1), ("abc", 1), ("a", 3), ("ab", 1))[seed % 5]
            machine = (drawn_machine(seed, rows, answers, 1 + seed % 12, 99) if seed % 2 else
                       sloping_machine(seed, rows, answers, 2 + seed % 11))
            draw = random.Random(seed)
            for _ in range(6):
                start = draw.randrange(machine.size), draw.randrange(machine.size)
                kinds[self.check(machine, machine, start, lead(machine, *start))] += 1
        self.assertGreater(min(kinds.values()), 100)

    def test_no_run_goes_beyond(self):
        for seed in range(40):
            machine = drawn_machine(seed, "ab", 1 + seed % 2, 1 + seed % 3, 3)
            for first in range(machine.size):
                for second in range(machine.size):
                    word, number, _ = lead(machine, first, second)
                    if word == "most":
                        self.assertLessEqual(max(walk(machine, run, first)[0] - walk(machine, run, second)[0]
                                                 for run in all_runs("ab", machine.answers, 4)), number)

    def test_over_itself(self):
        for seed in range(30):
            machine = drawn_machine(seed, "ab", 2, 1 + seed % 6, 99)
            for here in range(machine.size):
                word, number, run = lead(machine, here, here)
                self.assertEqual((word, number, len(run[0]) - len(run[1])), ("most", 0, 0))

    def test_rings(self):
        draw = random.Random(9)
        for size in range(1, 13):
            spans = tuple(draw.randint(1, 99) for _ in range(size))
            machine = ring_machine(spans)
            for first in range(size):
                second = draw.randrange(size)
                gone = [sum((spans * 3)[first:first + many]) - sum((spans * 3)[second:second + many])
                        for many in range(size + 1)]
                self.assertEqual(gone[-1], 0)
                self.assertEqual(lead(machine, first, second)[:2], ("most", max(gone)))
                self.check(machine, machine, (first, second), lead(machine, first, second))
        # Two rings in one machine, the one quicker by 1 in 132 rows.
        one, other = ring_machine((50,) * 11 + (51,)), ring_machine((50,) * 10 + (51,))
        for left, right in ((one, other), (other, one), (one, ring_machine((50,) * 11 + (52,)))):
            self.check(left, right, (0, 0), ahead(left, right))
        self.assertEqual((ahead(one, other)[:1], ahead(other, one)[:1]), (("most",), ("round",)))

    def test_standings_to_which_no_run_leads(self):
        machine = Machine("a", 1, ((((1, 0),),), (((5, 0),),), (((7, 2),),)))
        self.assertEqual(lead(machine, 1, 0), ("most", 4, ("a", (0,))))
        self.assertEqual(lead(machine, 0, 1), ("most", 0, ("", ())))
        self.assertEqual(lead(machine, 2, 1)[0], "round")

    def test_rigs(self):
        machine = machine_of(Rig("abcd", 2, (3, 4, 5, 6), (("kept", (0, 1, 2, 3), 2, 7), ("guess", "ab", 1, 9))))
        self.assertGreater(machine.size, 30)
        for start in ((0, machine.size - 1), (machine.size - 1, 0), (5, 17)):
            self.check(machine, machine, start, lead(machine, *start))

    def test_no_standing(self):
        for thing in odd_things() + [2, -1, True, False, "0", (0,), 10 ** 59]:
            if type(thing) is int and thing in (0, 1):
                continue
            self.assertEqual(raised(lead, M, thing, 0), ("NoStanding", {}), thing)
            self.assertEqual(raised(lead, M, 0, thing), ("NoStanding", {}), thing)
            for bound in (5, None):
                self.assertEqual(raised(is_lead_paper, M, thing, 0, bound, None), ("NoStanding", {}), thing)
                self.assertEqual(raised(is_lead_paper, M, 0, thing, bound, None), ("NoStanding", {}), thing)


class AheadTest(ToldTest):

    def test_same_as_lead_in_one_machine(self):
        kinds = {}
        for seed in range(60):
            one = drawn_machine(seed, "ab", 2, 1 + seed % 6, 4)
            other = drawn_machine(seed + 100, "ab", 2, 1 + seed % 5, 5)
            if seed % 3 == 0:
                other = Machine("ab", 2, tuple(tuple(tuple((min(spent + 3, 99), to) for spent, to in pairs)
                                                     for pairs in item) for item in one.moves))
            both, start = beside(one, other)
            for left, right, first, second in ((one, other, 0, start), (other, one, start, 0)):
                found = ahead(left, right)
                kinds[found[0]] = kinds.get(found[0], 0) + 1
                self.check(left, right, (0, 0), found)
                again = lead(both, first, second)
                self.assertEqual(found[0], again[0])
                if found[0] == "most":
                    self.assertEqual(found[1], again[1])
        self.assertGreater(min(kinds.values()), 15)

    def test_itself(self):
        for machine in (M, N, X, drawn_machine(1), machine_of(Rig("ab", 1, (3, 3), (("buffer", "a", 3, 2),)))):
            self.assertEqual(ahead(machine, machine)[:2], ("most", 0))

    def test_never_slower(self):
        slow, quick = ring_machine((5, 5)), ring_machine((5, 4, 5))
        self.assertEqual(ahead(quick, slow), ("most", 0, ("", ())))
        self.assertEqual(ahead(slow, quick)[0], "round")

    def test_other_rows(self):
        for other in (drawn_machine(1, "abc", 1), drawn_machine(1, "ab", 2), X, drawn_machine(1, "ac", 1)):
            self.assertEqual(raised(ahead, M, other), ("OtherRows", {}))
            self.assertEqual(raised(ahead, other, M), ("OtherRows", {}))


class PaperTest(unittest.TestCase):

    def refused(self, machine, first, second, bound, thing):
        """That a thing is judged False and stays as it was."""
        before = repr(thing)
        self.assertIs(is_lead_paper(machine, first, second, bound, thing), False, thing)
        self.assertEqual(repr(thing), before)

    def papers(self):
        """Machines, standings, the lead and a paper for it."""
        for seed in range(60):
            machine = drawn_machine(seed, "ab", 1 + seed % 2, 1 + seed % 4, 3)
            for first in range(machine.size):
                for second in range(machine.size):
                    word, number, _ = lead(machine, first, second)
                    if word == "most":
                        yield machine, first, second, number, self.paper(machine, first, second, number)

    def paper(self, machine, first, second, number):
        """What is left to each pair of standings up to the number, so that no step passes it."""
        levels = slow_lead(machine, machine, (first, second))
        return {pair: level for pair, level in levels.items()} if max(levels.values()) <= number else None

    def test_at_the_number_above_and_below(self):
        many = 0
        for machine, first, second, number, thing in self.papers():
            many += 1
            for bound in (number, number + 1, 10 ** 59):
                self.assertIs(is_lead_paper(machine, first, second, bound, thing), True)
            for bound in (number - 1, -1, -10 ** 59):
                self.refused(machine, first, second, bound, thing)
            higher = {pair: level + 3 for pair, level in thing.items()}
            self.assertIs(is_lead_paper(machine, first, second, number + 3, higher), True)
            self.refused(machine, first, second, number + 2, higher)
            lower = {pair: level - 1 for pair, level in thing.items()}
            self.assertIs(is_lead_paper(machine, first, second, number, lower), lower[first, second] >= 0)
        self.assertGreater(many, 100)

    def test_further_pairs(self):
        # Pairs to which no run leads may stand in a paper, if what is behind them does.
        thing = {(0, 0): 0, (1, 1): 0, (1, 0): 0, (0, 1): 0}
        self.assertIs(is_lead_paper(M, 0, 0, 1, {pair: thing[pair] for pair in ((0, 0), (1, 1))}), True)
        self.assertIs(is_lead_paper(M, 0, 0, 1, {**thing, (0, 0): 1, (1, 1): 1}), True)
        self.refused(M, 0, 0, 1, thing)
        self.refused(M, 0, 0, 1, {(0, 0): 0, (1, 1): 0, (0, 1): 2, (1, 0): 0})
        self.assertIs(is_lead_paper(M, 0, 0, 1, {(0, 0): 0, (1, 1): 0, (0, 1): -10 ** 50, (1, 0): -1}), True)
        self.refused(M, 1, 0, 1, {(0, 0): 0, (1, 1): 0})

    def test_spoiled(self):
        for at, (machine, first, second, number, thing) in enumerate(self.papers()):
            if at % 8:
                continue
            for pair, level in thing.items():
                lacking = {key: thing[key] for key in thing if key != pair}
                self.refused(machine, first, second, number, lacking)
                for worth in spoiled_integers(level) + [deep("tuple"), deep("dict"), level - 1]:
                    spoiled = {**thing, pair: worth}
                    if worth != level - 1 or isinstance(worth, bool):
                        self.refused(machine, first, second, number, spoiled)
                    elif len(thing) > 1 or level == 0:
                        self.refused(machine, first, second, number, spoiled)
                here, there = pair
                size = machine.size
                keys = [(here,), here, (here, there, 0), (here, str(there)), None, (here, size), (size, there),
                        (-1, there), (here, None), ((here, there),), "ab", deep("tuple", ())]
                keys += [(bool(here), there)] if here < 2 else []
                keys += [(here, bool(there))] if there < 2 else []
                for key in keys:
                    self.refused(machine, first, second, number, {**lacking, key: level})
                    if key not in thing:
                        self.refused(machine, first, second, number, {**thing, key: level})

    def test_no_paper_where_a_round_rises(self):
        one, start = beside(M, N)
        for level in (0, 10, 10 ** 30):
            self.refused(one, 0, start, 10 ** 59, {(0, start): level, (1, start): level})
            self.refused(one, 0, start, 10 ** 59, {(0, start): level, (1, start): level + 1})
            self.refused(one, 0, start, 10 ** 59, {(0, start): level + 1, (1, start): level})

    def test_other_things(self):
        for thing in odd_things():
            self.refused(M, 1, 0, 1, thing)
            self.refused(M, 1, 0, 1, {(1, 0): 0, (0, 0): thing, (1, 1): 1})
        self.assertIs(is_lead_paper(M, 1, 0, 1, {(1, 0): 0, (0, 0): 1, (1, 1): 1}), True)
        self.refused(M, 1, 0, 1, [((1, 0), 0), ((0, 0), 1), ((1, 1), 1)])
        self.refused(M, 1, 0, 1, ({(1, 0): 0, (0, 0): 1, (1, 1): 1},))

    def test_no_number(self):
        for bound in [thing for thing in odd_things() if type(thing) is not int] + [True, (0, 1), "0", [0]]:
            self.assertEqual(raised(is_lead_paper, M, 1, 0, bound, None), ("NoNumber", {}), bound)
        self.assertIsNone(raised(is_lead_paper, M, 1, 0, -10 ** 59, None))


if __name__ == "__main__":
    unittest.main()

"""Points 6.1 and 6.2: exact widths, unlike runs, rings and forks."""

import random
import unittest
from fractions import Fraction

from stretchprices.exact import exact, fork, is_exact_width, is_fork, is_ring, is_unlike, least_exact, ring, unlike
from stretchprices.machines import Machine
from stretchprices.rests import rest
from stretchprices.rigs import Rig, machine_of
from stretchprices.stretches import all_stretches
from helpers import (ENOUGH, M, MANY, N, X, all_runs, deep, drawn_machine, drawn_run, odd_things, raised,
                     slow_stretches, walk)
from slow_ways import ring_machine, sloping_machine

NO_WIDTHS = [0, -1, True, False, None, "1", (1,), [1], -10 ** 59]


def last_ticks(machine, run, here=0):
    """The ticks of the last row of a run."""
    code, told = run
    return walk(machine, run, here)[0] - walk(machine, (code[:-1], told[:-1]), here)[0]


def are_unlike(machine, width, thing):
    """Whether two runs end the same stretch with rows that take unlike ticks."""
    return (all(code for code, _ in thing)
            and slow_stretches(thing[0][0], width)[-1] == slow_stretches(thing[1][0], width)[-1]
            and last_ticks(machine, thing[0]) != last_ticks(machine, thing[1]))


def are_ring(machine, thing):
    one, other, circle, second, end, last = thing
    here, there = walk(machine, one)[1], walk(machine, other)[1]
    return (circle[0] == second[0] != "" and end[0] == last[0] != ""
            and walk(machine, circle, here)[1] == here and walk(machine, second, there)[1] == there
            and last_ticks(machine, end, here) != last_ticks(machine, last, there))


def are_fork(machine, thing):
    return thing[0][0] == thing[1][0] != "" and last_ticks(machine, thing[0]) != last_ticks(machine, thing[1])


def behind(machine, lot):
    """The pairs of standings to which the same row leads from the pairs of a lot, each answered anyhow."""
    return frozenset((to, other_to) for here, there in lot for at in range(len(machine.rows))
                     for _, to in machine.moves[here][at] for _, other_to in machine.moves[there][at])


def differ(machine, lot):
    """Whether a row takes unlike ticks at a pair of a lot."""
    return any(spent != other for here, there in lot for at in range(len(machine.rows))
               for spent, _ in machine.moves[here][at] for other, _ in machine.moves[there][at])


def slow_exact_widths(machine, most):
    """The flags whether the widths from 1 on are exact, from lots of pairs of standings.

    Codes that begin alike are those of a run and of another one with the same code; those that end alike, and are
    not shorter than a width, come from any two standings.
    """
    standings = [0]
    for here in standings:
        standings += [to for item in machine.moves[here] for _, to in item if to not in standings]
    standings = sorted(set(standings))
    ended, begun, right, flags = frozenset((k, n) for k in standings for n in standings), frozenset([(0, 0)]), True, []
    for _ in range(most):
        flags.append(right and not differ(machine, ended))
        right = right and not differ(machine, begun)
        ended, begun = behind(machine, ended), behind(machine, begun)
    return flags


def shift_machine(rows, length, seed, answers=1):
    """A machine whose standing is the last so many rows, and whose ticks are drawn: the width length + 1 is exact."""
    draw = random.Random(seed)
    tails, found = [""], [""]
    for _ in range(length):
        tails = [tail + row for tail in tails for row in rows]
        found += tails
    spans = {tail + row: draw.randint(1, 99) for tail in found for row in rows}
    return Machine(rows, answers, tuple(tuple(
        ((spans[tail + row], found.index((tail + row)[-length:] if length else "")),) * answers for row in rows)
        for tail in found))


def counting_machine(length):
    """A machine in which row a takes 2 ticks just behind that many rows a, otherwise 1; row b begins anew."""
    return Machine("ab", 1, tuple((((2 if here == length else 1, min(here + 1, length)),), ((1, 0),))
                                  for here in range(length + 1)))


class ExactTest(unittest.TestCase):

    def test_examples(self):
        self.assertEqual(exact(M, 2).table, {"^a": (1, 1), "^b": (1, 1), "aa": (1, 1), "ab": (1, 1), "ba": (2, 1),
                                             "bb": (1, 1)})
        self.assertIsNone(exact(M, 1))
        self.assertEqual(exact(N, 1).table, {"a": (1, 1), "b": (1, 1)})
        self.assertEqual([exact(X, width) for width in (1, 2, 3)], [None] * 3)

    def test_all_rests_are_nothing(self):
        many = 0
        for seed in range(60):
            rows, length = (("ab", 0), ("ab", 1), ("ab", 2), ("abc", 1), ("a", 2), ("abcd", 1))[seed % 6]
            machine = shift_machine(rows, length, seed, 1 + seed % 2)
            for width in (1, 2, 3):
                found = exact(machine, width)
                self.assertEqual(found is not None, slow_exact_widths(machine, 3)[width - 1])
                if found is None:
                    continue
                many += 1
                self.assertEqual((found.rows, found.width), (rows, width))
                for run in all_runs(rows, machine.answers, 3 if len(rows) > 1 else 6):
                    self.assertEqual(rest(machine, found, run), (0, 1))
        self.assertGreater(many, 50)

    def test_none_where_two_runs_are_unlike(self):
        for seed in range(120):
            rows, answers, size = (("ab", 1, 2), ("a", 1, 5), ("a", 2, 3), ("abc", 1, 2))[seed % 4]
            machine = drawn_machine(seed, rows, answers, size, 2)
            flags = slow_exact_widths(machine, 3)
            for width in (1, 2, 3):
                self.assertEqual(exact(machine, width) is not None, flags[width - 1])

    def test_standings_to_which_no_run_leads(self):
        machine = Machine("a", 1, ((((1, 1),),), (((1, 0),),), (((9, 0),),)))
        self.assertEqual(exact(machine, 1).table, {"a": (1, 1)})
        self.assertEqual(least_exact(machine), 1)
        self.assertIsNone(ring(machine))

    def test_errors(self):
        for width in NO_WIDTHS + [4, 10 ** 59] + odd_things():
            self.assertEqual(raised(exact, M, width), ("NoWidth", {}), width)
            self.assertEqual(raised(exact, machine_of(MANY), width), ("NoWidth", {}))
        self.assertEqual(raised(exact, machine_of(MANY), 3), ("TooMany", {"most": 300}))
        self.assertIsNone(exact(machine_of(MANY), 2))
        self.assertIsNone(exact(machine_of(ENOUGH), 3))

    def test_rigs(self):
        gap = machine_of(Rig("abc", 1, (1, 2, 3), (("gap", "ab", "c", 5),)))
        self.assertEqual([exact(gap, width) is None for width in (1, 2, 3)], [True, False, False])
        self.assertEqual(exact(gap, 2).table["bc"], (8, 1))
        couple = machine_of(Rig("abc", 1, (9, 9, 9), (("couple", ("ab", "ca"), 3),)))
        self.assertEqual([exact(couple, width) is None for width in (1, 2, 3)], [True, True, False])


class WidthTest(unittest.TestCase):

    def test_widths_one_by_one(self):
        kinds = {}
        for machine in self.machines():
            flags = slow_exact_widths(machine, 20)
            self.assertEqual([is_exact_width(machine, width) for width in range(1, 21)], flags)
            least = flags.index(True) + 1 if True in flags else None
            if least is not None or least_exact(machine) is None:
                self.assertEqual(least_exact(machine), least)
            kinds[least] = kinds.get(least, 0) + 1
            self.check_rings_and_forks(machine, least_exact(machine))
        self.assertTrue(all(kinds.get(least, 0) > 3 for least in (None, 1, 2, 3, 4)), kinds)

    def machines(self):
        for seed in range(100):
            rows, answers = (("ab", 1), ("a", 1), ("a", 2), ("abc", 1), ("ab", 2))[seed % 5]
            yield drawn_machine(seed, rows, answers, 1 + seed % 6, 2)
            yield sloping_machine(seed, rows, answers, 2 + seed % 5, 2)
        for seed in range(12):
            yield shift_machine("ab", seed % 3, seed)
            yield shift_machine("a", seed % 7, seed, 2)
        for length in range(12):
            yield counting_machine(length)
            yield ring_machine((1,) * length + (2,))

    def check_rings_and_forks(self, machine, least):
        found, pair = ring(machine), fork(machine)
        self.assertEqual(found is None and pair is None, least is not None)
        if found is not None:
            self.assertTrue(are_ring(machine, found))
            self.assertIs(is_ring(machine, found), True)
            self.assertTrue(all(walk(machine, run)[1] >= 0 and len(run[0]) == len(run[1]) for run in found))
        if pair is not None:
            self.assertTrue(are_fork(machine, pair))
            self.assertIs(is_fork(machine, pair), True)
            self.assertGreater(machine.answers, 1)

    def test_counting_machines(self):
        for length in range(1, 12):
            machine = counting_machine(length)
            self.assertEqual(least_exact(machine), length + 1)
            for width in (1, length, length + 1, length + 2, 10000):
                self.assertEqual(unlike(machine, width) is None, width > length)
                self.assertEqual(is_exact_width(machine, width), width > length)

    def test_greater_widths(self):
        # The pairs of standings that are left behind some rows become fewer for many rows.
        greatest = 0
        for seed in range(1500):
            draw = random.Random(seed)
            machine = Machine("ab", 1, tuple(
                tuple(((2 if here == 5 and row == 0 else 1, draw.randrange(6)),) for row in range(2))
                for here in range(6)))
            least = least_exact(machine)
            if least is not None and least > greatest:
                greatest = least
                flags = slow_exact_widths(machine, least + 2)
                self.assertEqual(flags, [False] * (least - 1) + [True] * 3)
                self.assertTrue(are_unlike(machine, least - 1, unlike(machine, least - 1)) if least > 1 else True)
                self.assertIsNone(unlike(machine, least))
        self.assertGreater(greatest, 3)

    def test_any_object(self):
        for machine, least in ((M, 2), (N, 1), (X, None)):
            for width in NO_WIDTHS + [thing for thing in odd_things() if type(thing) is not int]:
                self.assertIs(is_exact_width(machine, width), False, width)
            for width in (1, 2, 3, 4, 5, 10000, 10001, 10 ** 59):
                self.assertIs(is_exact_width(machine, width), least is not None and width >= least)
        # There is no bound of the places here.
        self.assertIs(is_exact_width(machine_of(MANY), 3), False)

    def test_rings_and_forks_of_rigs(self):
        for rig in (Rig("abc", 2, (3, 4, 5), (("kept", (0, 1, None), 2, 5),)), Rig("ab", 1, (9, 9), ()),
                    Rig("abcd", 3, (1, 2, 3, 4), (("gap", "ac", "bc", 10), ("buffer", "ad", 2, 3))),
                    Rig("ab", 1, (9, 9), (("couple", ("aa", "ab"), 3),)), ENOUGH, MANY,
                    Rig("ab", 2, (1, 1), (("answer", ((0, 1), (0, 0))),)),
                    Rig("ab", 2, (1, 2), (("guess", "a", 2, 3),))):
            machine = machine_of(rig)
            self.check_rings_and_forks(machine, least_exact(machine))
            for width in (1, 2, 3, 7, 50):
                found = unlike(machine, width)
                self.assertEqual(found is None, is_exact_width(machine, width))
                self.assertTrue(found is None or are_unlike(machine, width, found))

    def test_machines_with_one_answer_have_no_fork(self):
        for seed in range(100):
            machine = drawn_machine(seed, "ab", 1, 1 + seed % 12, 3)
            self.assertIsNone(fork(machine))
            self.assertEqual(ring(machine) is None, least_exact(machine) is not None)

    def test_a_fork_and_no_ring(self):
        machine = Machine("a", 2, ((((1, 1), (2, 1)),), (((1, 1), (1, 1)),)))
        self.assertIsNone(ring(machine))
        self.assertIsNone(least_exact(machine))
        self.assertEqual({told for _, told in fork(machine)}, {(0,), (1,)})
        # A ring and no fork: the rows behind b tell how many rows b there were, even or odd.
        machine = Machine("ab", 1, ((((1, 0),), ((1, 1),)), (((2, 1),), ((1, 0),))))
        self.assertIsNone(fork(machine))
        self.assertIsNone(least_exact(machine))
        self.assertTrue(are_ring(machine, ring(machine)))


class UnlikeTest(unittest.TestCase):

    def test_just_where_the_width_is_not_exact(self):
        many = 0
        for seed in range(90):
            rows, answers = (("ab", 1), ("a", 1), ("a", 2), ("abc", 1), ("ab", 2))[seed % 5]
            machine = drawn_machine(seed, rows, answers, 1 + seed % 6, 2)
            flags = slow_exact_widths(machine, 12)
            for width in range(1, 13):
                found = unlike(machine, width)
                self.assertEqual(found is None, flags[width - 1])
                if found is not None:
                    many += 1
                    self.assertTrue(are_unlike(machine, width, found))
                    self.assertIs(is_unlike(machine, width, found), True)
        self.assertGreater(many, 300)

    def test_forks_that_no_round_leads_to(self):
        # Only codes that begin alike are unlike here, so that wide stretches are those with "^".
        many = 0
        for seed in range(30):
            machine = sloping_machine(seed, "ab", 2, 2 + seed % 4, 3)
            many += fork(machine) is not None and ring(machine) is None
            for width in (1, 2, 3, 4, 5, 9, 10000):
                found = unlike(machine, width)
                self.assertEqual(found is None, is_exact_width(machine, width))
                self.assertTrue(found is None or are_unlike(machine, width, found))
        self.assertGreater(many, 10)

    def test_great_widths(self):
        # Rings, where the codes are as long as the width.
        for machine in (ring_machine((1, 1, 2)), Machine("ab", 1, ((((1, 0),), ((1, 1),)), (((2, 1),), ((1, 0),)))), X):
            for width in (99, 9999, 10000):
                found = unlike(machine, width)
                self.assertTrue(are_unlike(machine, width, found))
                self.assertIs(is_unlike(machine, width, found), True)
        for width in (99, 10000):
            self.assertIsNone(unlike(M, width))

    def test_no_width(self):
        for width in NO_WIDTHS + [10001, 10 ** 59] + odd_things():
            self.assertEqual(raised(unlike, X, width), ("NoWidth", {}), width)
            self.assertEqual(raised(is_unlike, X, width, unlike(X, 1)), ("NoWidth", {}), width)

    def test_widths_of_no_bound_of_places(self):
        machine = machine_of(MANY)
        self.assertTrue(are_unlike(machine, 3, unlike(machine, 3)))
        self.assertIs(is_unlike(machine, 3, unlike(machine, 3)), True)
        self.assertIs(is_unlike(machine, 3, None), False)

    def test_judged(self):
        self.assertIs(is_unlike(M, 1, (("ba", (0, 0)), ("a", (0,)))), True)
        for wrong in ((("ba", (0, 0)), ("b", (0,))), (("ba", (0, 0)), ("aba", (0, 0, 0))), (("", ()), ("a", (0,))),
                      (("ba", (0, 0)), ("", ())), (("", ()), ("", ())), (("ba", (0, 0)), ("aa", (0,)))):
            self.assertIs(is_unlike(M, 1, wrong), False)
        # For the width 2 the stretches "ba" and "^a" are unlike, and so are "ba" and "aa".
        for other in (("a", (0,)), ("aa", (0, 0)), ("abaa", (0,) * 4)):
            self.assertIs(is_unlike(M, 1, (("ba", (0, 0)), other)), True)
            self.assertIs(is_unlike(M, 2, (("ba", (0, 0)), other)), False)
        # A code that is as long as the width, and a longer one.
        ring_of = ring_machine((1, 1, 2))
        self.assertIs(is_unlike(ring_of, 2, (("aa", (0, 0)), ("aaa", (0,) * 3))), True)
        self.assertIs(is_unlike(ring_of, 3, (("aa", (0, 0)), ("aaa", (0,) * 3))), False)
        self.assertIs(is_unlike(ring_of, 3, (("aaa", (0,) * 3), ("aaaa", (0,) * 4))), True)
        self.assertIs(is_unlike(ring_of, 3, (("aaaa", (0,) * 4), ("aaaaa", (0,) * 5))), False)
        self.assertIs(is_unlike(ring_of, 4, (("aaa", (0,) * 3), ("aaaa", (0,) * 4))), False)

    def test_spoiled(self):
        for machine, width, thing in ((M, 1, (("ba", (0, 0)), ("a", (0,)))), (X, 3, unlike(X, 3)),
                                      (ring_machine((1, 1, 2)), 3, unlike(ring_machine((1, 1, 2)), 3))):
            self.assertIs(is_unlike(machine, width, thing), True)
            self.assertIs(is_unlike(machine, width, thing[::-1]), True)
            for wrong in spoiled_tuples(thing):
                self.assertIs(is_unlike(machine, width, wrong), False, wrong)


def spoiled_tuples(thing):
    """Things that are like a tuple of runs but none over these rows and answers."""
    yield list(thing)
    yield thing[:-1]
    yield (*thing, thing[-1])
    yield (*thing, None)
    yield dict(enumerate(thing))
    yield thing[0]
    yield (thing, thing)
    for at, (code, told) in enumerate(thing):
        wrong = [[code, told], (code, list(told)), (list(code), told), (code,), (code, told, 0), (told, code), code,
                 None, (code + "a", told), (code, told + (0,)), ("z" + code[1:], told) if code else ("z", (0,)),
                 ("a", (9,)), (code, told[1:] + (-1,)) if code else ("a", (-1,)), ("a", (True,)), ("a", (None,)),
                 ("A", (0,)),
                 deep("tuple"), deep("list"), (), ("^a", (0, 0)), (code.encode(), told)]
        for run in wrong:
            yield (*thing[:at], run, *thing[at + 1:])
    yield from odd_things()
    for other in odd_things():
        yield (other,) * len(thing)


class JudgedTest(unittest.TestCase):

    def test_rings_of_drawn_runs(self):
        draw = random.Random(5)
        seen = {True: 0, False: 0}
        for seed in range(600):
            machine = drawn_machine(seed, "ab", 2, 1 + seed % 3, 2)
            one, other = [drawn_run(draw, "ab", 2, draw.randrange(3)) for _ in range(2)]
            circle, end = [drawn_run(draw, "ab", 2, draw.randrange(3)) for _ in range(2)]
            second, last = [drawn_run(draw, "ab", 2, len(run[0]))[1] for run in (circle, end)]
            thing = (one, other, circle, (circle[0], second), end, (end[0], last))
            seen[are_ring(machine, thing)] += 1
            self.assertIs(is_ring(machine, thing), are_ring(machine, thing))
            pair = (end, (end[0], last))
            self.assertIs(is_fork(machine, pair), are_fork(machine, pair))
        self.assertGreater(min(seen.values()), 30)

    def test_spoiled_rings(self):
        for machine in (X, ring_machine((1, 1, 2)), machine_of(ENOUGH),
                        Machine("ab", 1, ((((1, 0),), ((1, 1),)), (((2, 1),), ((1, 0),))))):
            thing = ring(machine)
            self.assertIs(is_ring(machine, thing), True)
            one, other, circle, second, end, last = thing
            self.assertIs(is_ring(machine, (other, one, second, circle, last, end)), True)
            for wrong in spoiled_tuples(thing):
                self.assertIs(is_ring(machine, wrong), False, wrong)
            empty = ("", ())
            for wrong in ((one, other, empty, empty, end, last), (one, other, circle, second, empty, empty),
                          (one, other, circle, second, end, end) if one == other else None,
                          (one, other, circle, empty, end, last), (one, other, circle, second, end, empty)):
                self.assertIs(is_ring(machine, wrong), False)
            for at in range(6):
                for to in range(at):
                    mixed = list(thing)
                    mixed[at], mixed[to] = thing[to], thing[at]
                    self.assertIs(is_ring(machine, tuple(mixed)), are_ring(machine, mixed))

    def test_conditions_of_a_ring(self):
        machine = ring_machine((1, 1, 2))
        a, aa, aaa, empty = [("a" * many, (0,) * many) for many in (1, 2, 3, 0)]
        self.assertIs(is_ring(machine, (empty, aa, aaa, aaa, a, a)), True)
        self.assertIs(is_ring(machine, (aaa, aa, aaa, aaa, aa, aa)), False)
        self.assertIs(is_ring(machine, (a, aa, aaa, aaa, aa, aa)), True)
        self.assertIs(is_ring(machine, (empty, a, aaa, aaa, a, a)), False)
        self.assertIs(is_ring(machine, (empty, aa, aa, aa, a, a)), False)
        self.assertIs(is_ring(machine, (empty, aa, aaa, empty, a, a)), False)
        self.assertIs(is_ring(machine, (empty, empty, aaa, aaa, a, a)), False)
        self.assertIs(is_ring(machine, (empty, aa, aaa, aaa, a, aa)), False)
        # One round that leads back, and one that does not.
        machine = Machine("ab", 1, ((((1, 0),), ((1, 1),)), (((2, 1),), ((1, 2),)), (((3, 0),), ((3, 2),))))
        b, bb = ("b", (0,)), ("bb", (0, 0))
        self.assertIs(is_ring(machine, (empty, b, a, a, a, a)), True)
        self.assertIs(is_ring(machine, (empty, bb, a, a, a, a)), False)
        self.assertIs(is_ring(machine, (bb, empty, a, a, a, a)), False)
        self.assertIs(is_ring(machine, (bb, empty, b, b, a, a)), False)
        # Unlike codes that both lead back.
        self.assertIs(is_ring(machine, (empty, bb, a, b, a, a)), False)
        self.assertIs(is_ring(machine, (empty, b, a, a, a, b)), False)

    def test_spoiled_forks(self):
        self.assertIs(is_fork(X, (("a", (0,)), ("a", (1,)))), True)
        self.assertIs(is_fork(X, (("aa", (0, 0)), ("aa", (1, 0)))), True)
        for wrong in ((("a", (0,)), ("a", (0,))), (("", ()), ("", ())), (("a", (0,)), ("aa", (0, 0))),
                      (("aa", (0, 0)), ("aa", (0, 0))), (("aa", (1, 0)), ("a", (1,)))):
            self.assertIs(is_fork(X, wrong), False)
        for thing in (fork(X), (("aa", (0, 0)), ("aa", (1, 0)))):
            for wrong in spoiled_tuples(thing):
                self.assertIs(is_fork(X, wrong), False, wrong)
        for wrong in (("ba", (0, 0)), ("a", (0,))), (("ba", (0, 0)), ("ba", (0, 0))):
            self.assertIs(is_fork(M, wrong), False)


class FactTest(unittest.TestCase):

    def test_prices_of_exact_widths_are_whole_ticks(self):
        for seed in range(20):
            machine = shift_machine("abc", 1, seed)
            table = exact(machine, 2).table
            self.assertEqual(sorted(table), all_stretches("abc", 2))
            self.assertTrue(all(Fraction(*worth) in range(1, 100) for worth in table.values()))


if __name__ == "__main__":
    unittest.main()

"""Points 1.1 to 1.3, and the general rules for them."""

import random
import unittest

from stretchprices.machines import Machine, standing, standing_from, ticks, ticks_from
from stretchprices.rigs import Rig, machine_of
from helpers import M, N, X, drawn_machine, drawn_run, odd_things, raised, walk


def bad(part):
    return "BadMachine", {"part": part}


def plain(rows, answers, size):
    """Moves of the right form, all of them to the last standing."""
    return tuple(tuple(((5, size - 1),) * answers for _ in rows) for _ in range(size))


class MachineTest(unittest.TestCase):

    def test_let(self):
        for rows in ("a", "z", "ab", "az", "bmx", "abcd", "wxyz"):
            for answers in (1, 2, 3):
                for size in range(1, 13):
                    moves = plain(rows, answers, size)
                    made = Machine(rows, answers, moves)
                    self.assertEqual((made.rows, made.answers, made.moves, made.size), (rows, answers, moves, size))

    def test_bad_rows(self):
        for rows in ("", "aa", "ba", "abb", "acb", "abcde", "A", "aB", "a ", " ", "`", "{", "a1", "^a", "abcdefgh"):
            self.assertEqual(raised(Machine, rows, 1, plain(rows, 1, 1)), bad("rows"), rows)
        for rows in [None, 1, ("a",), ["a"], b"a", {"a": 1}, True]:
            self.assertEqual(raised(Machine, rows, 1, plain("a", 1, 1)), bad("rows"), rows)

    def test_bad_answers(self):
        for answers in (0, 4, -1, True, False, "1", None, (1,), [1], 10 ** 59):
            self.assertEqual(raised(Machine, "a", answers, plain("a", 1, 1)), bad("answers"), answers)

    def test_ticks_from_1_to_99(self):
        for spent in (1, 2, 98, 99):
            self.assertIsNone(raised(Machine, "a", 1, ((((spent, 0),),),)))
        for spent in (0, -1, 100, 10 ** 59, True, False, "1", None, (1,), [1], b"1"):
            self.assertEqual(raised(Machine, "a", 1, ((((spent, 0),),),)), bad("moves"), spent)

    def test_goals_are_standings(self):
        for goal in (0, 1):
            self.assertIsNone(raised(Machine, "a", 1, ((((1, goal),),), (((1, 0),),))))
        for goal in (-1, 2, 12, True, False, "0", None, (0,), [0]):
            self.assertEqual(raised(Machine, "a", 1, ((((1, goal),),), (((1, 0),),))), bad("moves"), goal)
            self.assertEqual(raised(Machine, "a", 1, ((((1, 0),),), (((1, goal),),))), bad("moves"), goal)

    def test_too_many_or_too_few(self):
        self.assertEqual(raised(Machine, "ab", 2, ()), bad("moves"))
        self.assertEqual(raised(Machine, "ab", 2, plain("ab", 2, 13)), bad("moves"))
        for rows, answers in (("a", 2), ("abc", 2), ("ab", 1), ("ab", 3), ("", 2)):
            self.assertEqual(raised(Machine, "ab", 2, plain(rows, answers, 2)), bad("moves"))
            mixed = plain("ab", 2, 2)[:1] + plain(rows, answers, 2)[1:]
            self.assertEqual(raised(Machine, "ab", 2, mixed), bad("moves"))
        for pair in ((1,), (1, 0, 0), ()):
            self.assertEqual(raised(Machine, "a", 1, (((pair,),),)), bad("moves"))

    def test_lists_are_no_tuples(self):
        right = Machine("a", 1, ((((1, 0),),),))
        self.assertEqual(right.size, 1)
        for moves in ([(((1, 0),),)], ([((1, 0),)],), (([(1, 0)],),), ((([1, 0],),),), {0: (((1, 0),),)}):
            self.assertEqual(raised(Machine, "a", 1, moves), bad("moves"))

    def test_other_kinds(self):
        for thing in odd_things():
            if thing not in ("a",):
                self.assertEqual(raised(Machine, thing, 1, plain("a", 1, 1)), bad("rows"))
            self.assertEqual(raised(Machine, "a", thing, plain("a", 1, 1)), bad("answers"))
            for moves in (thing, (thing,), ((thing,),), (((thing,),),), ((((thing, 0),),),), ((((1, 0),),), thing)):
                self.assertEqual(raised(Machine, "a", 1, moves), bad("moves"))

    def test_the_first_that_is_wrong(self):
        self.assertEqual(raised(Machine, "ba", 0, ()), bad("rows"))
        self.assertEqual(raised(Machine, "ba", 1, ()), bad("rows"))
        self.assertEqual(raised(Machine, "ab", 0, ()), bad("answers"))
        self.assertEqual(raised(Machine, None, None, None), bad("rows"))
        self.assertEqual(raised(Machine, "a", None, None), bad("answers"))
        self.assertEqual(raised(Machine, "a", 1, None), bad("moves"))

    def test_equality(self):
        same = Machine("ab", 1, ((((1, 0),), ((1, 1),)), (((2, 0),), ((1, 1),))))
        self.assertTrue(M == same)
        self.assertFalse(M != same)
        others = [
            N, X,
            Machine("ac", 1, M.moves),
            Machine("ab", 1, M.moves + M.moves[:1]),
            Machine("ab", 1, ((((1, 0),), ((1, 1),)), (((3, 0),), ((1, 1),)))),
            Machine("ab", 1, ((((1, 0),), ((1, 1),)), (((2, 1),), ((1, 1),)))),
            Machine("ab", 2, tuple(tuple(pairs * 2 for pairs in item) for item in M.moves)),
        ]
        for other in others:
            self.assertFalse(M == other)
            self.assertTrue(M != other)
        self.assertTrue(machine_of(Rig("a", 1, (3,), ())) == Machine("a", 1, ((((3, 0),),),)))

    def test_equal_to_nothing_else(self):
        for thing in odd_things() + [("ab", 1, M.moves), M.moves, Rig("ab", 1, (1, 1), ())]:
            if thing is not M:
                self.assertFalse(M == thing)
                self.assertTrue(M != thing)
                self.assertFalse(thing == M)


class RunsTest(unittest.TestCase):

    def test_examples(self):
        self.assertEqual(ticks(M, ("aba", (0, 0, 0))), 4)
        self.assertEqual(ticks(M, ("abba", (0, 0, 0, 0))), 5)
        self.assertEqual([ticks_from(M, 1, ("a" * k, (0,) * k)) for k in range(4)], [0, 2, 3, 4])
        self.assertEqual([standing(M, (code, (0,) * len(code))) for code in ("", "a", "b", "ba", "abb")],
                         [0, 0, 1, 0, 1])
        self.assertEqual(ticks(X, ("aaa", (0, 0, 1))), 12)
        self.assertEqual(ticks(X, ("aaa", (1, 0, 1))), 4)
        self.assertEqual((ticks_from(X, 1, ("a", (0,))), standing_from(X, 0, ("a", (0,)))), (9, 1))

    def test_the_empty_run(self):
        for machine in (M, N, X):
            self.assertEqual((ticks(machine, ("", ())), standing(machine, ("", ()))), (0, 0))
            for start in range(machine.size):
                self.assertEqual(ticks_from(machine, start, ("", ())), 0)
                self.assertEqual(standing_from(machine, start, ("", ())), start)

    def test_drawn_runs_and_runs_put_together(self):
        draw = random.Random(1)
        for seed in range(60):
            answers = 1 + seed % 3
            machine = drawn_machine(seed, "abcd"[:1 + seed % 4], answers, 1 + seed % 12, 99)
            for length in (0, 1, 2, 5, 200):
                one = drawn_run(draw, machine.rows, answers, length)
                two = drawn_run(draw, machine.rows, answers, draw.randrange(4))
                both = (one[0] + two[0], one[1] + two[1])
                start = draw.randrange(machine.size)
                self.assertEqual((ticks(machine, both), standing(machine, both)), walk(machine, both))
                there = standing_from(machine, start, one)
                self.assertEqual((ticks_from(machine, start, both), standing_from(machine, start, both)),
                                 walk(machine, both, start))
                self.assertEqual(ticks_from(machine, start, both),
                                 ticks_from(machine, start, one) + ticks_from(machine, there, two))

    def test_no_run(self):
        wrong = [
            ("c", (0,)), ("A", (0,)), ("a ", (0, 0)), ("^a", (0, 0)), ("a", ()), ("", (0,)), ("ab", (0,)),
            ("a", (0, 0)), ("a", (2,)), ("a", (-1,)), ("a", (True,)), ("a", (False,)), ("a", ("0",)), ("a", (None,)),
            ("a", [0]), ["a", (0,)], ("a", 0), (("a",), (0,)), (b"a", (0,)), ("a", (0,), 0), ("a",), (0, "a"),
            ((0,), "a"), {"a": (0,)}, ("a", {0: 0}), ("a", range(1)), (["a"], (0,)), "a0", ("a", "0"), ("a", b"0"),
        ]
        machine = drawn_machine(0)
        for thing in wrong + odd_things() + [(thing, ()) for thing in odd_things() if thing != ""] \
                + [("a", thing) for thing in odd_things()] + [("a", (thing,)) for thing in odd_things() if thing != 0]:
            for call in (ticks, standing):
                self.assertEqual(raised(call, machine, thing), ("NoRun", {}), thing)
            for call in (ticks_from, standing_from):
                self.assertEqual(raised(call, machine, 1, thing), ("NoRun", {}), thing)
        self.assertIsNone(raised(ticks, machine, ("a", (1,))))

    def test_answers_of_the_machine(self):
        for answers in (1, 2, 3):
            machine = drawn_machine(1, "a", answers)
            for answer in range(5):
                given = raised(ticks, machine, ("a", (answer,)))
                self.assertEqual(given, None if answer < answers else ("NoRun", {}))

    def test_no_standing(self):
        machine = drawn_machine(0)
        for thing in [3, 12] + [thing for thing in odd_things() if type(thing) is not int or thing != 0]:
            for call in (ticks_from, standing_from):
                for run in (("a", (0,)), None, ("c", (0,))):
                    self.assertEqual(raised(call, machine, thing, run), ("NoStanding", {}), thing)
        for start in range(3):
            self.assertIsNone(raised(ticks_from, machine, start, ("a", (0,))))

    def test_standings_of_a_machine_that_was_returned(self):
        machine = machine_of(Rig("abcd", 1, (1, 1, 1, 1), (("kept", (0, 1, 2, 3), 2, 1),)))
        self.assertEqual(machine.size, 17)
        self.assertIsNone(raised(ticks_from, machine, 16, ("a", (0,))))
        self.assertEqual(raised(ticks_from, machine, 17, ("a", (0,))), ("NoStanding", {}))
        self.assertEqual(raised(Machine, machine.rows, 1, machine.moves), bad("moves"))


if __name__ == "__main__":
    unittest.main()

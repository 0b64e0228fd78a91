"""Point 2.2: the machines of rigs."""

import random
import unittest

from stretchprices.machines import Machine, alike, standing, ticks
from stretchprices.rigs import Rig, machine_of
from helpers import M, all_runs, drawn_run, raised, walk
from slow_rigs import WAITS, drawn_part, slow_ticks

LINES = ("kept", (0, 1, 2, 3), 2, 5)


def spans(rig, code, told=None):
    """What each row of a run takes in the machine of a rig."""
    machine = machine_of(rig)
    told = told or (0,) * len(code)
    sums = [ticks(machine, (code[:at], told[:at])) for at in range(len(code) + 1)]
    return [sums[at + 1] - sums[at] for at in range(len(code))]


class FormsTest(unittest.TestCase):

    def test_no_parts(self):
        machine = machine_of(Rig("ab", 2, (3, 4), ()))
        self.assertEqual(machine, Machine("ab", 2, ((((3, 0), (3, 0)), ((4, 0), (4, 0))),)))

    def test_gap(self):
        self.assertTrue(machine_of(Rig("ab", 1, (1, 1), (("gap", "b", "a", 1),))) == M)
        rig = Rig("abc", 1, (1, 2, 3), (("gap", "ac", "bc", 10),))
        self.assertEqual(spans(rig, "abbccacb"), [1, 12, 2, 3, 13, 1, 13, 12])
        self.assertEqual(machine_of(rig).size, 2)

    def test_kept(self):
        rig = Rig("abc", 1, (1, 1, 1), (("kept", (0, 1, None), 1, 4),))
        self.assertEqual(spans(rig, "aacabcbba"), [5, 1, 1, 1, 5, 1, 1, 1, 5])
        rig = Rig("abc", 1, (1, 1, 1), (("kept", (0, 1, 2), 2, 4),))
        self.assertEqual(spans(rig, "abacbac"), [5, 5, 1, 5, 5, 5, 5])
        rig = Rig("abc", 1, (1, 1, 1), (("kept", (3, 1, 3), 1, 4),))
        self.assertEqual(spans(rig, "acab"), [5, 1, 1, 5])
        self.assertEqual(machine_of(rig).size, 3)

    def test_guess(self):
        rig = Rig("ab", 3, (1, 1), (("guess", "a", 1, 6),))
        self.assertEqual(spans(rig, "aabaaa", (0, 1, 0, 2, 0, 0)), [1, 7, 1, 1, 7, 1])
        rig = Rig("ab", 2, (1, 1), (("guess", "a", 2, 6),))
        self.assertEqual(spans(rig, "a" * 9, (1, 1, 1, 1, 0, 0, 0, 0, 1)), [7, 7, 1, 1, 7, 7, 1, 1, 7])
        self.assertEqual(machine_of(rig).size, 4)

    def test_couple(self):
        rig = Rig("ab", 1, (9, 9), (("couple", ("aa", "ab"), 4),))
        self.assertEqual(spans(rig, "aaaabbab"), [9, 5, 9, 5, 9, 9, 9, 5])
        self.assertEqual(machine_of(rig).size, 2)

    def test_answer(self):
        rig = Rig("ab", 2, (2, 3), (("answer", ((0, 20), (5, 0))),))
        self.assertEqual(spans(rig, "abab", (0, 0, 1, 1)), [2, 8, 22, 3])
        self.assertEqual(machine_of(rig).size, 1)

    def test_buffer(self):
        rig = Rig("abc", 1, (1, 1, 1), (("buffer", "ab", 2, 3),))
        self.assertEqual(spans(rig, "cabacaabccca"), [1, 1, 1, 4, 1, 1, 4, 4, 1, 1, 1, 1])
        self.assertEqual(machine_of(rig).size, 3)

    def test_several_parts(self):
        rig = Rig("ab", 2, (3, 5), (("gap", "a", "b", 1), ("couple", ("ab",), 2), ("answer", ((0, 4), (0, 7)))))
        self.assertEqual(spans(rig, "abb", (1, 1, 0)), [7, 11, 5])
        self.assertEqual(machine_of(rig).size, 2)

    def test_most_ticks(self):
        parts = (("gap", "a", "a", 20), ("kept", (0,), 1, 20), ("answer", ((20,),)))
        self.assertEqual(spans(Rig("a", 1, (20,), parts), "aa"), [60, 60])
        parts = (("gap", "a", "a", 20), ("buffer", "a", 1, 20), ("answer", ((20,),)))
        self.assertEqual(spans(Rig("a", 1, (20,), parts), "aaa"), [40, 80, 80])


class NumbersTest(unittest.TestCase):

    def test_numbers_by_hand(self):
        rig = Rig("abc", 1, (1, 1, 1), (("kept", (2, 1, 0), 2, 1),))
        machine = machine_of(rig)
        runs = ["", "a", "b", "c", "ab", "ac", "ba", "bc", "ca", "cb"]
        self.assertEqual([standing(machine, (code, (0,) * len(code))) for code in runs], list(range(10)))
        # The same lines in another order are something else that is remembered.
        self.assertEqual(standing(machine, ("aba", (0, 0, 0))), 6)

    def test_couples_remember_the_row(self):
        machine = machine_of(Rig("abc", 1, (5, 5, 5), (("couple", ("cb", "ba"), 1),)))
        self.assertEqual([standing(machine, (code, (0,) * len(code))) for code in ("", "a", "b", "c", "cb", "cbb")],
                         [0, 0, 1, 2, 0, 1])

    def test_gap_remembers_whether_and_not_which(self):
        machine = machine_of(Rig("abc", 1, (1, 1, 1), (("gap", "bc", "a", 1),)))
        self.assertEqual([standing(machine, (code, (0,))) for code in "abc"], [0, 1, 1])

    def test_standings_are_memories_though_alike(self):
        # Lines of their own for a single row: the rest of the machine is the same whatever is kept.
        machine = machine_of(Rig("ab", 1, (1, 1), (("gap", "a", "a", 1), ("gap", "a", "b", 1))))
        self.assertEqual(machine.size, 2)
        machine = machine_of(Rig("a", 1, (1,), (("couple", ("aa",), 1), ("gap", "a", "a", 1))))
        self.assertEqual(machine.moves, ((((1, 1),),), (((1, 2),),), (((2, 1),),)))
        machine = machine_of(Rig("a", 1, (1,), (("kept", (None,), 2, 1), ("guess", "a", 2, 1))))
        self.assertEqual(machine.size, 1)
        machine = machine_of(Rig("ab", 1, (2, 2), (("couple", ("ab", "bb"), 1), ("couple", ("ab", "bb"), 1))[:1]))
        self.assertEqual(machine.size, 3)

    def test_numbered_by_code_ahead_of_answers(self):
        # A counter that goes up by answer 1: "aa" with answers 1, 1 is earlier than "ab" with answers 0, 0.
        rig = Rig("ab", 2, (1, 1), (("guess", "a", 2, 1), ("buffer", "b", 1, 1)))
        machine = machine_of(rig)
        seen = []
        for run in all_runs("ab", 2, 5):
            here = walk(machine, run)[1]
            if here not in seen:
                seen.append(here)
        self.assertEqual(seen, list(range(8)))
        self.assertEqual(machine.size, 8)
        self.assertLess(standing(machine, ("aa", (1, 1))), standing(machine, ("ab", (1, 0))))

    def test_drawn_ones_against_runs_counted_by_the_words(self):
        draw = random.Random(2)
        made = 0
        for turn in range(400):
            rows, answers = "abcd"[:draw.randint(1, 4)], draw.randint(1, 3)
            kinds = [draw.choice(sorted(WAITS)) for _ in range(turn % 4)]
            parts = tuple(drawn_part(draw, kind, rows, answers) for kind in kinds)
            base = tuple(draw.randint(10, 20) for _ in rows)
            if raised(Rig, rows, answers, base, parts) is not None:
                continue
            rig = Rig(rows, answers, base, parts)
            if raised(machine_of, rig) is not None:
                self.assertEqual(raised(machine_of, rig), ("TooMany", {"most": 60}))
                continue
            made += 1
            machine = machine_of(rig)
            for length in (1, 3, 30):
                run = drawn_run(draw, rows, answers, length)
                self.assertEqual(ticks(machine, run), sum(slow_ticks(rows, base, parts, run)))
            seen = []
            for run in all_runs(rows, answers, 3):
                here = walk(machine, run)[1]
                if here not in seen:
                    seen.append(here)
            self.assertEqual(seen, list(range(len(seen))))
        self.assertGreater(made, 200)


class TooManyTest(unittest.TestCase):

    def test_sizes_at_and_beyond_the_edge(self):
        for parts, size in [
            ((LINES,), 17),
            ((LINES, ("gap", "a", "b", 1)), 17),
            ((("guess", "a", 2, 1), ("guess", "b", 2, 1), ("buffer", "c", 2, 1)), 48),
            ((("guess", "a", 2, 1), ("guess", "b", 2, 1), ("buffer", "c", 3, 1)), 64),
            ((("guess", "a", 2, 1), ("guess", "b", 2, 1), ("guess", "c", 2, 1)), 64),
            ((LINES, ("guess", "a", 2, 1)), 56),
            ((LINES, ("guess", "ab", 2, 1)), 59),
            ((LINES, ("guess", "abc", 2, 1)), 62),
            ((LINES, ("guess", "abcd", 2, 1)), 65),
        ]:
            rig = Rig("abcd", 2, (1, 1, 1, 1), parts)
            if size > 60:
                self.assertEqual(raised(machine_of, rig), ("TooMany", {"most": 60}))
            else:
                self.assertEqual(machine_of(rig).size, size)

    def test_just_60_and_61(self):
        sizes = {}
        draw = random.Random(9)
        for _ in range(3000):
            parts = tuple(drawn_part(draw, draw.choice(("kept", "guess", "buffer", "couple", "gap")), "abcd", 2, 1)
                          for _ in range(3))
            rig = Rig("abcd", 2, (9, 9, 9, 9), parts)
            sizes.setdefault(memories("abcd", parts), rig)
            if 60 in sizes and 61 in sizes:
                break
        self.assertEqual(machine_of(sizes[60]).size, 60)
        self.assertEqual(raised(machine_of, sizes[61]), ("TooMany", {"most": 60}))

    def test_alike_though_other_parts(self):
        one = machine_of(Rig("ab", 1, (1, 1), (("kept", (0, 1), 1, 3),)))
        other = machine_of(Rig("ab", 1, (4, 4), (("gap", "a", "a", 3), ("gap", "b", "b", 3))))
        self.assertFalse(alike(one, other))
        other = machine_of(Rig("ab", 1, (4, 4), (("gap", "ab", "ab", 3), ("couple", ("ab", "ba"), 3))))
        self.assertFalse(alike(one, other))
        other = machine_of(Rig("ab", 1, (1, 1), (("kept", (3, 2), 1, 3), ("gap", "a", "b", 1))))
        self.assertFalse(alike(one, other))
        other = machine_of(Rig("ab", 1, (1, 1), (("kept", (3, 2), 1, 3),)))
        self.assertEqual(one, other)


def memory_behind(part, memory, row, answer):
    """What a part remembers behind a row, with no regard to ticks."""
    if part[0] == "gap":
        return row in part[1]
    if part[0] == "kept":
        line = part[1]["abcd".index(row)]
        return memory if line is None else ([line] + [it for it in memory if it != line])[:part[2]]
    if part[0] == "couple":
        second = memory is not None and memory + row in part[1]
        return row if not second and any(pair[0] == row for pair in part[1]) else None
    if part[0] == "guess":
        if row not in part[1]:
            return memory
        return min(memory + 1, 2 ** part[2] - 1) if answer else max(memory - 1, 0)
    return min(memory + 1, part[2]) if row in part[1] else max(memory - 1, 0)


def memories(rows, parts):
    """How many things the parts remember together."""
    first = {"gap": False, "kept": [], "couple": None, "guess": 0, "buffer": 0}
    found = [[first[part[0]] for part in parts]]
    seen = {repr(found[0])}
    for memory in found:
        for row in rows:
            for answer in range(2):
                behind = [memory_behind(part, it, row, answer) for part, it in zip(parts, memory)]
                if repr(behind) not in seen:
                    seen.add(repr(behind))
                    found.append(behind)
    return len(found)


if __name__ == "__main__":
    unittest.main()

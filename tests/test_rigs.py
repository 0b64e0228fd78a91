"""Point 2.1: which rigs are let."""

import random
import unittest

from stretchprices.rigs import Rig, machine_of
from helpers import M, all_runs, deep, odd_things, raised
from slow_rigs import WAITS, drawn_part, slow_ticks

LET = {
    "gap": [("gap", "a", "b", 1), ("gap", "ab", "ab", 20), ("gap", "b", "b", 7)],
    "kept": [("kept", (0, 3), 1, 1), ("kept", (None, None), 2, 20), ("kept", (1, 1), 2, 3), ("kept", (None, 2), 1, 9)],
    "guess": [("guess", "a", 1, 1), ("guess", "ab", 2, 20), ("guess", "b", 2, 5)],
    "couple": [("couple", ("ab",), 1), ("couple", ("aa", "ab", "ba", "bb"), 9), ("couple", ("bb", "aa"), 4)],
    "answer": [("answer", ((0, 20), (1, 0))), ("answer", ((0, 0), (0, 0)))],
    "buffer": [("buffer", "a", 1, 1), ("buffer", "ab", 3, 20), ("buffer", "b", 2, 4)],
}
LETTERS = ["", "aa", "ba", "c", "abc", "A", "a ", "^", None, 1, True, ("a",), ["a"], b"a", {"a": 1}]
WAIT = [0, 21, -1, True, False, None, "1", (1,), [1], 10 ** 59]
REFUSED = {
    "gap": [("gap", it, "b", 1) for it in LETTERS] + [("gap", "a", it, 1) for it in LETTERS]
    + [("gap", "a", "b", it) for it in WAIT] + [("gap", "a", "b"), ("gap", "a", "b", 1, 1), ("gap", "a", 1)],
    "kept": [("kept", it, 1, 1) for it in (
        (0,), (0, 0, 0), (), [0, 0], "00", None, {0: 0, 1: 1}, (4, 0), (0, -1), (0, True), (False, 0), (0, "0"),
        (0, (0,)), (0, [0]), b"00")]
    + [("kept", (0, 1), it, 1) for it in (0, 3, True, None, "1", (1,))]
    + [("kept", (0, 1), 1, it) for it in WAIT] + [("kept", (0, 1), 1), ("kept", (0, 1), 1, 1, 1), ("kept",)],
    "guess": [("guess", it, 1, 1) for it in LETTERS]
    + [("guess", "a", it, 1) for it in (0, 3, True, None, "1", [1])]
    + [("guess", "a", 1, it) for it in WAIT] + [("guess", "a", 1), ("guess", "a", 1, 1, 1)],
    "couple": [("couple", it, 1) for it in (
        (), ("ab", "ab"), ("aa", "ab", "ba", "bb", "ab"), ("a",), ("abb",), ("",), ("ac",), ("AB",), ["ab"], "ab",
        (("a", "b"),), ("ab", 1), ("ab", None), (["ab"],), ({},), (b"ab",), None, {"ab": 1})]
    + [("couple", ("ab",), it) for it in (0, 10, -1, True, False, None, "1", (1,), 10 ** 59)]
    + [("couple", ("ab",)), ("couple", ("ab",), 1, 1)],
    "answer": [("answer", it) for it in (
        (), ((0, 0),), ((0, 0), (0, 0), (0, 0)), ((0,), (0, 0)), ((0, 0), (0, 0, 0)), [(0, 0), (0, 0)],
        ([0, 0], (0, 0)), ((0, 0), (0, 21)), ((-1, 0), (0, 0)), ((0, True), (0, 0)), ((0, 0), (None, 0)),
        ((0, 0), ("0", 0)), ((0, 0), None), None, 0, "ab")]
    + [("answer",), ("answer", ((0, 0), (0, 0)), 1)],
    "buffer": [("buffer", it, 1, 1) for it in LETTERS]
    + [("buffer", "a", it, 1) for it in (0, 4, True, None, "1", [1])]
    + [("buffer", "a", 1, it) for it in WAIT] + [("buffer", "a", 1), ("buffer", "a", 1, 1, 1)],
}


def bad(part):
    return "BadRig", {"part": part}


class RigTest(unittest.TestCase):

    def test_each_form_is_let(self):
        for parts in LET.values():
            for part in parts:
                for given in ((part,), (part, part), (part,) * 2 + (LET["gap"][0],)):
                    made = Rig("ab", 2, (20, 20), given)
                    self.assertEqual((made.rows, made.answers, made.base, made.parts), ("ab", 2, (20, 20), given))

    def test_no_parts(self):
        self.assertEqual(Rig("a", 1, (1,), ()).parts, ())

    def test_what_no_form_lets(self):
        for kind, parts in REFUSED.items():
            right = LET[kind][0]
            for part in parts:
                for given in ((part,), (right, part), (part, right)):
                    self.assertEqual(raised(Rig, "ab", 2, (20, 20), given), bad("parts"), part)

    def test_other_words_and_kinds(self):
        for kind in ("", "gaps", "Gap", "GAP", " gap", "waits", None, 1, True, ("gap",), ["gap"], b"gap", {"gap": 1}):
            self.assertEqual(raised(Rig, "ab", 2, (20, 20), ((kind, "a", "b", 1),)), bad("parts"))
        self.assertEqual(raised(Rig, "ab", 2, (20, 20), (["gap", "a", "b", 1],)), bad("parts"))
        for thing in odd_things():
            self.assertEqual(raised(Rig, "ab", 2, (20, 20), (thing,)), bad("parts"))
            for right in [parts[0] for parts in LET.values()]:
                for at in range(len(right)):
                    given = right[:at] + (thing,) + right[at + 1:]
                    self.assertEqual(raised(Rig, "ab", 2, (20, 20), (given,)), bad("parts"), given)
                    self.assertEqual(raised(Rig, "ab", 2, (20, 20), (right + (thing,),)), bad("parts"))
            if thing not in ((), ("a",)):
                self.assertEqual(raised(Rig, "ab", 2, (20, 20), thing), bad("parts"))

    def test_letters_are_rows_of_the_rig(self):
        self.assertIsNone(raised(Rig, "bx", 1, (1, 1), (("gap", "bx", "x", 1),)))
        self.assertEqual(raised(Rig, "bx", 1, (1, 1), (("gap", "bx", "a", 1),)), bad("parts"))
        self.assertEqual(raised(Rig, "bx", 1, (1, 1), (("couple", ("bb", "ab"), 1),)), bad("parts"))

    def test_at_most_four_couples(self):
        pairs = ("aa", "ab", "bc", "cc", "ca")
        self.assertIsNone(raised(Rig, "abc", 1, (9, 9, 9), (("couple", pairs[:4], 1),)))
        self.assertEqual(raised(Rig, "abc", 1, (9, 9, 9), (("couple", pairs, 1),)), bad("parts"))

    def test_at_most_three_parts(self):
        part = LET["gap"][0]
        for many in range(7):
            given = raised(Rig, "ab", 1, (1, 1), (part,) * many)
            self.assertEqual(given, None if many <= 3 else bad("parts"))
        self.assertEqual(raised(Rig, "ab", 1, (1, 1), [part]), bad("parts"))
        self.assertEqual(raised(Rig, "ab", 1, (1, 1), part), bad("parts"))

    def test_rows_and_answers(self):
        for rows in odd_things() + ["abcde", "aa", "ba", "A"]:
            self.assertEqual(raised(Rig, rows, 0, None, None), bad("rows"))
        for answers in odd_things() + [0, 4]:
            self.assertEqual(raised(Rig, "a", answers, None, None), bad("answers"))
        for answers in (1, 2, 3):
            for rows in ("a", "bc", "xyz", "abcd"):
                self.assertIsNone(raised(Rig, rows, answers, (1,) * len(rows), ()))

    def test_base(self):
        for least in (1, 2, 19, 20):
            self.assertIsNone(raised(Rig, "ab", 1, (least, 21 - least), ()))
        for base in [(0, 1), (1, 0), (1, 21), (-1, 1), (1,), (1, 1, 1), (), [1, 1], (1, True), (False, 1), (1, "1"),
                     (1, None), "11", b"11", 1, None, {0: 1, 1: 1}, range(1, 3), (1, (1,)), ((1, 1),)] + odd_things():
            self.assertEqual(raised(Rig, "ab", 1, base, None), bad("base"), base)

    def test_the_first_that_is_wrong(self):
        low = (("couple", ("aa",), 1),)
        self.assertEqual(raised(Rig, "", 0, (), None), bad("rows"))
        self.assertEqual(raised(Rig, "a", 0, (), None), bad("answers"))
        self.assertEqual(raised(Rig, "a", 1, (), low), bad("base"))
        self.assertEqual(raised(Rig, "a", 1, (1,), low + (None,)), bad("parts"))
        self.assertEqual(raised(Rig, "a", 1, (1,), low), bad("ticks"))

    def test_equality(self):
        given = ("ab", 2, (3, 4), (("gap", "a", "b", 1),))
        rig = Rig(*given)
        self.assertTrue(rig == Rig(*given))
        self.assertFalse(rig != Rig(*given))
        for at, other in ((0, "ac"), (1, 1), (2, (4, 3)), (3, ()), (3, given[3] * 2), (3, (("gap", "a", "b", 2),))):
            changed = list(given)
            changed[at] = other
            if at == 0:
                changed[3] = ()
                self.assertFalse(Rig("ab", 2, (3, 4), ()) == Rig(*changed))
            self.assertFalse(rig == Rig(*changed))
            self.assertTrue(rig != Rig(*changed))
        for thing in odd_things() + [given, M, deep("tuple")]:
            self.assertFalse(rig == thing)
            self.assertTrue(rig != thing)


class TicksTest(unittest.TestCase):

    def check(self, let, rows, answers, base, *parts):
        self.assertEqual(raised(Rig, rows, answers, base, parts), None if let else bad("ticks"), parts)

    def test_a_gain_alone(self):
        for gain in (1, 2, 9):
            self.check(True, "ab", 1, (1, gain + 1), ("couple", ("ab",), gain))
            self.check(False, "ab", 1, (20, gain), ("couple", ("ab",), gain))
            self.check(False, "ab", 1, (20, 1), ("couple", ("bb",), gain))
        self.check(True, "a", 1, (3,), ("couple", ("aa",), 1), ("couple", ("aa",), 1))
        self.check(False, "a", 1, (2,), ("couple", ("aa",), 1), ("couple", ("aa",), 1))
        self.check(False, "a", 1, (20,), *(("couple", ("aa",), 9),) * 3)
        self.check(True, "a", 1, (20,), *(("couple", ("aa",), 6),) * 3)

    def test_a_gain_beside_waits(self):
        couple = ("couple", ("ab",), 2)
        self.check(True, "ab", 1, (1, 1), couple, ("gap", "a", "b", 2))
        self.check(False, "ab", 1, (1, 1), couple, ("gap", "a", "b", 1))
        self.check(False, "ab", 1, (1, 1), couple, ("gap", "b", "b", 20))
        self.check(True, "ab", 2, (1, 1), couple, ("answer", ((0, 0), (2, 2))))
        self.check(False, "ab", 2, (1, 1), couple, ("answer", ((0, 0), (2, 1))))
        self.check(False, "ab", 2, (1, 1), couple, ("guess", "b", 1, 20))

    def test_what_the_parts_remember_together_decides(self):
        # Straight behind row b, line 0 is not kept if there is room for one line alone.
        couple = ("couple", ("ba",), 1)
        self.check(True, "ab", 1, (1, 1), couple, ("kept", (0, 1), 1, 1))
        self.check(False, "ab", 1, (1, 1), couple, ("kept", (0, 1), 2, 1))
        self.check(False, "ab", 1, (1, 1), couple, ("kept", (0, None), 1, 1))
        # A second row a finds a buffer of one full, a row behind b does not.
        self.check(True, "ab", 1, (1, 1), ("couple", ("aa",), 1), ("buffer", "a", 1, 1))
        self.check(False, "ab", 1, (1, 1), ("couple", ("aa",), 1), ("buffer", "a", 2, 1))
        self.check(False, "ab", 1, (1, 1), ("couple", ("aa", "ba"), 1), ("buffer", "a", 1, 1))
        # A row that is the second one of both couples gains twice.
        self.check(True, "ab", 1, (2, 2), ("couple", ("ab",), 1), ("couple", ("ba", "aa"), 1))
        self.check(False, "ab", 1, (2, 2), ("couple", ("ab", "ba"), 1), ("couple", ("ba", "aa"), 1))
        # Row c gains behind b or behind a, never both.
        self.check(True, "abc", 1, (9, 9, 2), ("couple", ("ab", "bc"), 1), ("couple", ("ac",), 1))
        self.check(False, "abc", 1, (9, 9, 2), ("couple", ("ab", "bc"), 1), ("couple", ("ac", "bc"), 1))

    def test_drawn_ones_against_all_runs(self):
        draw = random.Random(11)
        wrong = 0
        for turn in range(400):
            rows, answers, most = (("ab", 1, 9), ("ab", 2, 5), ("abc", 1, 6))[turn % 3]
            kinds = ["couple"] + [draw.choice(sorted(WAITS)) for _ in range(draw.randrange(3))]
            parts = tuple(drawn_part(draw, kind, rows, answers, 2) for kind in kinds)
            base = tuple(draw.randint(1, 3) for _ in rows)
            let = all(min(slow_ticks(rows, base, parts, run), default=1) >= 1
                      for run in all_runs(rows, answers, most))
            self.check(let, rows, answers, base, *parts)
            wrong += not let
        self.assertTrue(100 < wrong < 300)

    def test_however_much_the_parts_remember(self):
        # These remember more than 60 things together.
        kept = ("kept", (0, 1, 2, 3), 2, 1)
        guess = ("guess", "abcd", 2, 1)
        self.assertEqual(raised(machine_of, Rig("abcd", 2, (1, 1, 1, 1), (kept, guess))), ("TooMany", {"most": 60}))
        self.check(True, "abcd", 2, (1, 1, 1, 2), kept, guess, ("couple", ("cd",), 1))
        self.check(False, "abcd", 2, (1, 1, 1, 1), kept, guess, ("couple", ("dd",), 1))
        self.check(True, "abcd", 2, (1, 1, 1, 1), kept, guess, ("gap", "d", "a", 1))


if __name__ == "__main__":
    unittest.main()

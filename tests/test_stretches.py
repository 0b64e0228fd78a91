"""Point 3.1: stretches."""

import itertools
import unittest

from stretchprices.stretches import all_stretches, stretches
from helpers import odd_things, raised, slow_stretches

NO_CODES = ["A", "aB", "a b", "^a", "a^", "a1", "a\n", "`", "{", "-", None, 1, True, ("a",), ["a"], b"a", {"a": 1}]
NO_WIDTHS = [0, 4, -1, True, False, None, "1", (1,), [1], 10 ** 59]


class StretchesTest(unittest.TestCase):

    def test_examples(self):
        self.assertEqual(stretches("aba", 2), ["^a", "ab", "ba"])
        self.assertEqual(stretches("aba", 1), ["a", "b", "a"])
        self.assertEqual(stretches("abacc", 3), ["^a", "^ab", "aba", "bac", "acc"])

    def test_short_codes(self):
        for width in (1, 2, 3):
            self.assertEqual(stretches("", width), [])
        self.assertEqual(stretches("z", 1), ["z"])
        self.assertEqual(stretches("z", 2), ["^z"])
        self.assertEqual(stretches("z", 3), ["^z"])
        self.assertEqual(stretches("zy", 3), ["^z", "^zy"])
        self.assertEqual(stretches("zyz", 3), ["^z", "^zy", "zyz"])

    def test_many_kinds_of_letters(self):
        letters = "abcdefghijklmnopqrstuvwxyz"
        for code in (letters, letters[::-1] * 7, "zebra" * 40, "q" * 200):
            for width in (1, 2, 3):
                self.assertEqual(stretches(code, width), slow_stretches(code, width))

    def test_all_short_codes(self):
        for length in range(6):
            for code in itertools.product("abc", repeat=length):
                for width in (1, 2, 3):
                    self.assertEqual(stretches("".join(code), width), slow_stretches("".join(code), width))

    def test_errors(self):
        for code in NO_CODES + [it for it in odd_things() if it not in ("", "ba", "aa", "abcde")]:
            for width in (1, 2, 3, 0, None):
                self.assertEqual(raised(stretches, code, width), ("NoCode", {}), code)
        for width in NO_WIDTHS + odd_things():
            self.assertEqual(raised(stretches, "ab", width), ("NoWidth", {}), width)
            self.assertEqual(raised(stretches, "", width), ("NoWidth", {}), width)

    def test_new_lists(self):
        found = stretches("ab", 2)
        found.append("x")
        self.assertEqual(stretches("ab", 2), ["^a", "ab"])
        found = all_stretches("a", 2)
        found.clear()
        self.assertEqual(all_stretches("a", 2), ["^a", "aa"])


class AllStretchesTest(unittest.TestCase):

    def test_examples(self):
        self.assertEqual(all_stretches("ab", 1), ["a", "b"])
        self.assertEqual(all_stretches("ab", 2), ["^a", "^b", "aa", "ab", "ba", "bb"])
        self.assertEqual(all_stretches("x", 3), ["^x", "^xx", "xxx"])

    def test_against_all_codes_of_up_to_four_rows(self):
        for rows in ("a", "z", "bc", "amz", "abcd", "wxyz"):
            for width in (1, 2, 3):
                names = {name for length in range(5) for code in itertools.product(rows, repeat=length)
                         for name in slow_stretches("".join(code), width)}
                self.assertEqual(all_stretches(rows, width), sorted(names))

    def test_errors(self):
        for rows in ["", "ba", "aa", "abcde", "A", "^", "a b", b"a", ("a",), ["a"], None, 1] + odd_things():
            for width in (1, 3, 0, None):
                self.assertEqual(raised(all_stretches, rows, width), ("NoRows", {}), rows)
        for width in NO_WIDTHS + odd_things():
            self.assertEqual(raised(all_stretches, "ab", width), ("NoWidth", {}), width)


if __name__ == "__main__":
    unittest.main()

"""Points 16.1 and 16.2: the desk, which works by lines."""

import random
import unittest
from fractions import Fraction

from stretchprices.best import best
from stretchprices.books import book
from stretchprices.bounds import gap
from stretchprices.desk import Desk
from stretchprices.exact import least_exact
from stretchprices.machines import alike, ticks
from stretchprices.odd import odd
from stretchprices.rates import rate
from stretchprices.rests import rest
from stretchprices.stretches import Prices
from stretchprices.texts import machine_text, prices_text
from helpers import M, N, X, drawn_machine, drawn_prices, drawn_run, odd_things, raised
from slow_books import made_machine
from test_odd import two_rings

ONE = "machine a 1|at 0|a 1 0|"
FREE = Prices("ab", 1, {"a": (0, 1), "b": (0, 1)})


def kept(word, name, thing):
    """The line that keeps a machine or prices under a name."""
    text = machine_text(thing) if word == "machine" else prices_text(thing)
    return f"{word} {name} " + text.replace("\n", "|")


def desk_of(machines=(), prices=()):
    """A desk on which machines and prices are kept under their names."""
    desk = Desk()
    for word, things in (("machine", machines), ("prices", prices)):
        for name, thing in dict(things).items():
            assert desk.tell(kept(word, name, thing)) == "ok"
    return desk


def write(fraction):
    return str(Fraction(*fraction))


class Checks(unittest.TestCase):

    def check(self, desk, line, wanted):
        found = desk.tell(line)
        self.assertEqual(found, wanted, line)
        self.assertIs(type(found), str)

    def refused(self, desk, line, error, /, **fields):
        """The line raises the error, and changes nothing."""
        before = self.seen(desk)
        self.assertEqual(raised(desk.tell, line), (error, fields), line)
        self.assertEqual(self.seen(desk), before)

    def seen(self, desk):
        """What can be seen of a desk."""
        found = [desk.undoable(), desk.tell("names")]
        for name in ("m", "n", "x", "p", "q", "abcdefgh", "zz"):
            found += [raised(desk.tell, f"exact {name}"), raised(desk.tell, f"gap m {name}"),
                      raised(desk.tell, f"gap n {name}"), raised(desk.tell, f"ticks {name} a 0")]
            if not found[-1]:
                found.append(desk.tell(f"ticks {name} a 0"))
        return found


class LinesTest(Checks):

    def test_at_first(self):
        desk = Desk()
        self.check(desk, "names", "none")
        self.assertEqual(desk.undoable(), 0)
        self.refused(desk, "undo", "NothingDone")

    def test_plain_lines(self):
        desk = desk_of({"m": M, "n": N, "x": X}, {"free": FREE})
        for line, wanted in (("names", "m n x"), ("ticks m aba 000", "4"), ("ticks m - -", "0"),
                             ("ticks x aa 00", "10"), ("rest m free aba 000", "4"), ("priced m 1", "lots"),
                             ("priced m 2", "book"), ("best m 1", "none"), ("best m 2", "0"), ("gap m free", "none"),
                             ("exact m", "2"), ("exact x", "none"), ("rate m n", "3/2"), ("rate n m", "1"),
                             ("alike m n", "no"), ("alike m m", "yes"), ("even m", "yes"), ("even x", "no")):
            self.check(desk, line, wanted)
        self.check(desk, "prices p prices ab 1|a 3/2|b 7/3|", "ok")
        self.check(desk, "rest m p aba 000", "-4/3")
        self.check(desk, "rest m p - -", "0")
        self.check(desk, "machine m " + ONE, "ok")
        self.check(desk, "ticks m aaa 000", "3")

    def test_names_of_all_lengths(self):
        desk = Desk()
        names = ["a", "abcdefgh", "z", "names", "undo", "machine", "prices", "drop", "ab", "aa"]
        for name in names:
            self.check(desk, f"machine {name} {ONE}", "ok")
            self.check(desk, f"ticks {name} aa 00", "2")
        self.check(desk, "names", " ".join(sorted(names)))
        for name in ("abcdefghi", "A", "a1", "1", "-", "^a", "a-b", "", "a|", "\u00e4"):
            self.refused(desk, f"machine {name} {ONE}", "NoLine")
            self.refused(desk, f"prices {name} {ONE}", "NoLine")
            self.refused(desk, f"drop {name}", "NoLine")
            self.refused(desk, f"exact {name}", "NoLine")
            self.refused(desk, f"rate a {name}", "NoLine")

    def test_against_the_functions(self):
        lines = 0
        for seed in range(40):
            rows, answers = ("ab", "a", "abc")[seed % 3], 1 + seed % 2
            machine, other = (drawn_machine(seed + many, rows, answers, 1 + seed % 4, 5) for many in (0, 100))
            if seed % 4 == 0 and rows == "ab":
                machine = made_machine(seed, 2)
            width = 1 + seed % 3
            prices = book(machine, width)[0] if book(machine, width) else drawn_prices(seed, rows, width)
            desk = desk_of({"m": machine, "o": other}, {"p": prices, "m": drawn_prices(seed + 1, rows, 1)})
            draw = random.Random(seed)
            for length in (0, 1, 7):
                run = drawn_run(draw, rows, machine.answers, length)
                words = (run[0] or "-") + " " + ("".join(map(str, run[1])) or "-")
                self.check(desk, f"ticks m {words}", str(ticks(machine, run)))
                self.check(desk, f"rest m p {words}", write(rest(machine, prices, run)))
                self.check(desk, f"rest m m {words}", write(rest(machine, drawn_prices(seed + 1, rows, 1), run)))
            self.check(desk, f"priced m {width}", "book" if book(machine, width) else "lots")
            error = raised(best, machine, width)
            if error:
                self.refused(desk, f"best m {width}", error[0], **error[1])
            else:
                found = best(machine, width)
                self.check(desk, f"best m {width}", write(found[0]) if found else "none")
            found = gap(machine, prices)
            self.check(desk, "gap m p", write(found) if found else "none")
            self.check(desk, "exact m", str(least_exact(machine) or "none"))
            self.check(desk, "even m", "yes" if odd(machine) is None else "no")
            self.check(desk, "alike m m", "yes")
            if machine.answers == other.answers:
                self.check(desk, "rate m o", write(rate(machine, other)[0]))
                self.check(desk, "alike m o", "yes" if alike(machine, other) else "no")
                lines += 1
        self.assertGreater(lines, 20)

    def test_even_machines_with_long_odd_turns(self):
        # The first kinder run that takes more ticks has thousands of rows, or there is none.
        desk = desk_of({"m": two_rings((5, 5, 5, 5, 6), (5, 5, 5, 5, 5, 6)),
                        "n": two_rings((5, 5, 5, 5, 6), (5, 5, 6))})
        self.check(desk, "even m", "no")
        self.check(desk, "even n", "yes")

    def test_machines_and_prices_apart(self):
        desk = desk_of({"m": M}, {"m": FREE})
        self.check(desk, "rest m m b 0", "1")
        self.check(desk, "names", "m")
        self.check(desk, "machine q " + ONE, "ok")
        self.refused(desk, "rest m q b 0", "NoName", name="q")
        self.check(desk, "prices free prices ab 1|a 0|b 0|", "ok")
        self.check(desk, "names", "m q")
        self.refused(desk, "exact free", "NoName", name="free")
        # An elder one makes room for one of its own kind alone.
        self.check(desk, "prices m prices ab 1|a 0|b 1/2|", "ok")
        self.check(desk, "rest m m b 0", "1/2")
        self.check(desk, "machine m machine ab 1|at 0|a 9 0|b 8 0|", "ok")
        self.check(desk, "rest m m b 0", "15/2")

    def test_drop(self):
        desk = desk_of({"m": M, "n": N}, {"m": FREE, "p": FREE})
        self.check(desk, "drop m", "ok")
        self.check(desk, "names", "n")
        self.refused(desk, "rest m p b 0", "NoName", name="m")
        self.refused(desk, "rest n m b 0", "NoName", name="m")
        self.check(desk, "drop p", "ok")
        self.refused(desk, "rest n p b 0", "NoName", name="p")
        self.check(desk, "drop n", "ok")
        self.check(desk, "names", "none")
        for name in ("m", "n", "p", "q"):
            self.refused(desk, f"drop {name}", "NoName", name=name)

    def test_numbers_of_many_figures(self):
        desk = desk_of({"m": M})
        great = 10 ** 59 + 1
        self.check(desk, f"prices p prices ab 1|a {great}/{great - 1}|b -{great}|", "ok")
        self.check(desk, "rest m p b 0", str(great + 1))
        self.check(desk, "rest m p " + "ab" * 100 + " " + "0" * 200,
                   write((Fraction(299) + 100 * great - Fraction(100 * great, great - 1)).as_integer_ratio()))

    def test_two_desks_are_apart(self):
        one, other = Desk(), Desk()
        self.check(one, "machine m " + ONE, "ok")
        self.check(other, "names", "none")
        self.refused(other, "undo", "NothingDone")
        self.refused(other, "exact m", "NoName", name="m")
        self.check(other, "prices m prices a 1|a 1|", "ok")
        self.refused(one, "gap m m", "NoName", name="m")
        self.check(one, "undo", "ok")
        self.assertEqual((one.undoable(), other.undoable()), (0, 1))
        for thing in [other, *odd_things()]:
            self.assertIs(one == thing, False)


class ErrorsTest(Checks):

    def test_no_line(self):
        desk = desk_of({"m": M, "n": N}, {"p": FREE})
        right = ["names", "undo", "drop m", "ticks m aba 000", "rest m p aba 000", "priced m 1", "best m 2", "gap m p",
                 "exact m", "rate m n", "alike m n", "even m"]
        wrong = odd_things() + [
            "", " ", "  ", "name", "help", "-", "machine", "prices", "machine ", "machine m", "prices p", "machine m ",
            "prices p ", "machine  " + ONE, "machine  m " + ONE, " machine m " + ONE, "Machine m " + ONE,
            "prices  p prices ab 1|a 0|b 0|", "machinem " + ONE, b"names", ["names"], ("names",), ("exact", "m"),
            "machine m " + ONE + "\n", "machine m\n" + ONE, "machine\nm " + ONE,
            "machine m machine a 1\nat 0\na 1 0\n"]
        for line in right:
            words = line.split(" ")
            wrong += [line + " ", " " + line, line + "\n", "\n" + line, line + " m", line + " 0", line + "\t",
                      line + "|", line.replace(" ", "\n"), line.upper(), line.capitalize(), line + " -"]
            wrong += [" ".join(words[:at] + words[at + 1:]) for at in range(len(words)) if len(words) > 1]
            wrong += [" ".join(words[:at] + ["", *words[at:]]) for at in range(len(words) + 1)]
            wrong += [" ".join(words[:at] + [word] + words[at + 1:]) for at in range(len(words))
                      for word in ("", "M", "abcdefghi!", "+", "^", "m.", "\u0661", "a\tb", "1a")]
        for line in wrong:
            if line not in right:
                self.refused(desk, line, "NoLine")

    def test_words_of_each_kind(self):
        desk = desk_of({"m": M, "n": N}, {"p": FREE})
        for word in ("12", "10", "-1", "a", "", "01", "1.", "--", "-", "\u0661"):
            self.refused(desk, f"priced m {word}", "NoLine")
            self.refused(desk, f"best m {word}", "NoLine")
        for word in ("0", "4", "9"):
            self.refused(desk, f"priced m {word}", "NoWidth")
            self.refused(desk, f"best m {word}", "NoWidth")
        for word in ("A", "a1", "1", "--", "-a", "a-", "^", "^a", "a|b", "\u00e4"):
            self.refused(desk, f"ticks m {word} 0", "NoLine")
            self.refused(desk, f"rest m p {word} 0", "NoLine")
        for word in ("a", "--", "-0", "0-", "0,0", "+0", "0.", "\u0661"):
            self.refused(desk, f"ticks m a {word}", "NoLine")
            self.refused(desk, f"rest m p a {word}", "NoLine")
        # These have the form; the function refuses what is no run.
        for words in ("a -", "- 0", "a 00", "ab 0", "a 1", "a 9", "c 0", "abc 000", "names 00000", "a " + "0" * 99):
            self.refused(desk, f"ticks m {words}", "NoRun")
            self.refused(desk, f"rest m p {words}", "NoRun")

    def test_texts_ahead_of_nothing(self):
        desk = desk_of({"m": M}, {"p": FREE})
        for name in ("m", "fresh"):
            for text, line in ((" ", 1), ("  ", 1), ("|", 1), ("x", 1), (" " + ONE, 1), (ONE[:-1], 3), (ONE + "|", 4),
                               (ONE + " ", 4), (ONE + "at 1|", 5), ("machine a 1|", 2), ("machine a 1|at 1|a 1 0|", 2),
                               ("prices ab 1|a 0|b 0|", 1), (ONE.replace("|", "||", 1), 2),
                               ("machine a 1|at 0|a 1 0 0|", 3), ("machine a 1|at 00|a 1 0|", 2),
                               ("machine a 1|at 0|a 01 0|", 3), ("machine a 1|at 0|a 1 00|", 3)):
                self.refused(desk, f"machine {name} {text}", "BadText", line=line)
            for text, line in ((" ", 1), ("|", 1), ("prices ab 1|", 2), ("prices ab 1|b 0|a 0|", 3), (ONE, 1),
                               ("prices ab 1|a 0|b 0", 3), ("prices ab 1|a 0|b 0||", 4), ("prices ab 1|a 1/1|b 0|", 2),
                               ("prices ab 1|a 00|b 0|", 2), ("prices ab 1|a 0|b -01/2|", 3),
                               ("prices ab 1|a 0|b 1/02|", 3), ("prices x 2|^x 09|xx -10|", 2)):
                self.refused(desk, f"prices {name} {text}", "BadText", line=line)
            for text, part in (("machine aa 1|at 0|a 1 0|a 1 0|", "rows"),
                               ("machine a 4|at 0|a" + " 1 0" * 4 + "|", "answers"),
                               ("machine a 1|at 0|a 1 1|", "moves"), ("machine a 1|at 0|a 0 0|", "moves")):
                self.refused(desk, f"machine {name} {text}", "BadMachine", part=part)
            for text, part in (("prices ba 1|a 0|b 0|", "rows"), ("prices ab 0|a 0|b 0|", "width"),
                               ("prices ab 1|a 0|", "table"), ("prices ab 1|a 2/4|b 0|", "table")):
                self.refused(desk, f"prices {name} {text}", "BadPrices", part=part)

    def test_no_name(self):
        desk = desk_of({"m": M, "n": N}, {"p": FREE, "q": FREE})
        for line, name in (("ticks p a 0", "p"), ("ticks zz a 0", "zz"), ("rest p p a 0", "p"),
                           ("rest zz yy a 0", "zz"), ("rest m n a 0", "n"), ("rest m zz a 0", "zz"),
                           ("rest p m a 0", "p"), ("priced p 2", "p"), ("best zz 9", "zz"),
                           ("best abcdefgh 9", "abcdefgh"), ("gap m m", "m"), ("gap p m", "p"), ("gap zz yy", "zz"),
                           ("exact q", "q"), ("rate m p", "p"), ("rate p m", "p"), ("rate zz yy", "zz"),
                           ("alike m zz", "zz"), ("alike zz m", "zz"), ("even p", "p"), ("drop zz", "zz"),
                           ("drop abcdefgh", "abcdefgh")):
            self.refused(desk, line, "NoName", name=name)
        # Ahead of what the functions raise.
        self.refused(desk, "priced zz 0", "NoName", name="zz")
        self.refused(desk, "ticks zz c 9", "NoName", name="zz")
        self.refused(desk, "rest m zz c 9", "NoName", name="zz")

    def test_what_the_functions_raise(self):
        desk = desk_of({"m": M, "x": X, "big": drawn_machine(1, "ab", 2, 12)}, {"p": FREE, "o": drawn_prices(1, "cd")})
        self.refused(desk, "rest m o a 0", "OtherRows")
        self.refused(desk, "rest m o c 9", "OtherRows")
        self.refused(desk, "gap m o", "OtherRows")
        self.refused(desk, "gap x p", "OtherRows")
        self.refused(desk, "rate m x", "OtherRows")
        self.refused(desk, "alike x m", "OtherRows")
        self.refused(desk, "best big 3", "TooMany", most=16)
        self.refused(desk, "best big 0", "NoWidth")


class UndoTest(Checks):

    def test_each_kind(self):
        desk = Desk()
        self.check(desk, "machine m " + ONE, "ok")
        self.assertEqual(desk.undoable(), 1)
        self.check(desk, "undo", "ok")
        self.check(desk, "names", "none")
        self.assertEqual(desk.undoable(), 0)
        self.refused(desk, "undo", "NothingDone")
        desk = desk_of({"m": M}, {"p": FREE})
        self.check(desk, "machine m " + ONE, "ok")
        self.check(desk, "ticks m a 0", "1")
        self.refused(desk, "ticks m b 0", "NoRun")
        self.check(desk, "undo", "ok")
        self.check(desk, "ticks m b 0", "1")
        self.check(desk, "prices p prices ab 1|a 0|b 1/2|", "ok")
        self.check(desk, "rest m p b 0", "1/2")
        self.check(desk, "undo", "ok")
        self.check(desk, "rest m p b 0", "1")
        self.check(desk, "drop m", "ok")
        self.check(desk, "undo", "ok")
        self.check(desk, "ticks m b 0", "1")
        self.assertEqual(desk.undoable(), 2)
        self.check(desk, "undo", "ok")
        self.refused(desk, "rest m p b 0", "NoName", name="p")
        self.check(desk, "undo", "ok")
        self.refused(desk, "undo", "NothingDone")

    def test_drop_of_both(self):
        desk = desk_of({"m": M}, {"m": FREE})
        self.check(desk, "drop m", "ok")
        self.assertEqual(desk.undoable(), 3)
        self.check(desk, "undo", "ok")
        self.check(desk, "rest m m b 0", "1")
        # Only the one of both that there was comes back.
        desk = desk_of({"m": M})
        self.check(desk, "drop m", "ok")
        self.check(desk, "prices m prices ab 1|a 0|b 0|", "ok")
        self.check(desk, "undo", "ok")
        self.check(desk, "undo", "ok")
        self.refused(desk, "gap m m", "NoName", name="m")
        self.check(desk, "exact m", "2")

    def test_other_lines_are_not_taken_back(self):
        desk = desk_of({"m": M, "n": N}, {"p": FREE})
        for line in ("names", "ticks m a 0", "rest m p a 0", "priced m 1", "best m 2", "gap m p", "exact m", "rate m n",
                     "alike m n", "even m"):
            desk.tell(line)
            self.assertEqual(desk.undoable(), 3)
        for line in ("undo x", "drop zz", "machine m x", "names "):
            raised(desk.tell, line)
            self.assertEqual(desk.undoable(), 3)

    def test_drawn_lines(self):
        things = {"machine": [M, N, drawn_machine(1), drawn_machine(2)],
                  "prices": [FREE, drawn_prices(1), drawn_prices(2)]}
        for seed in range(40):
            draw = random.Random(seed)
            desk, now, past = Desk(), {"machine": {}, "prices": {}}, []
            for _ in range(60):
                name = draw.choice("mnpq")
                kind = draw.choice(("machine", "prices", "drop", "undo", "undo"))
                before = {word: dict(now[word]) for word in now}
                if kind == "undo":
                    if past:
                        now = past.pop()
                        self.check(desk, "undo", "ok")
                    else:
                        self.refused(desk, "undo", "NothingDone")
                elif kind == "drop":
                    if name in now["machine"] or name in now["prices"]:
                        now = {word: {key: each[key] for key in each if key != name} for word, each in now.items()}
                        past.append(before)
                        self.check(desk, f"drop {name}", "ok")
                    else:
                        self.refused(desk, f"drop {name}", "NoName", name=name)
                else:
                    thing = draw.choice(things[kind])
                    now = {**now, kind: {**now[kind], name: thing}}
                    past.append(before)
                    self.check(desk, kept(kind, name, thing), "ok")
                self.assertEqual(desk.undoable(), len(past))
                self.check_kept(desk, now)

    def check_kept(self, desk, now):
        self.check(desk, "names", " ".join(sorted(now["machine"])) or "none")
        for name in "mnpq":
            for other in "mnpq":
                if name in now["machine"] and other in now["prices"]:
                    machine, prices = now["machine"][name], now["prices"][other]
                    self.check(desk, f"rest {name} {other} abba 0000", write(rest(machine, prices, ("abba", (0,) * 4))))
                else:
                    missing = name if name not in now["machine"] else other
                    self.assertEqual(raised(desk.tell, f"gap {name} {other}"), ("NoName", {"name": missing}))


if __name__ == "__main__":
    unittest.main()

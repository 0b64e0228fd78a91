"""Point 14.2: reading texts of machines and of prices."""

import random
import unittest

from stretchprices.books import book
from stretchprices.machines import Machine
from stretchprices.reading import read_machine, read_prices
from stretchprices.rigs import Rig, machine_of
from stretchprices.stretches import Prices
from stretchprices.texts import machine_text, prices_text
from helpers import M, N, X, drawn_machine, drawn_prices, odd_things, raised

MACHINE = ["machine ab 2", "at 0", "a 1 0 2 1", "b 3 1 4 0", "at 1", "a 5 0 6 0", "b 7 1 99 1"]
PRICES = ["prices ab 2", "^a 1/2", "^b -3", "aa 0", "ab -7/3", "ba 12", "bb 5/4"]
MANY = "1" * 60


def text_of(lines):
    return "".join(line + "\n" for line in lines)


def changed(lines, number, line):
    """The text of the lines with another one in the place of the one of this number, counted from 1."""
    return text_of(lines[:number - 1] + [line] + lines[number:])


class Reading(unittest.TestCase):

    def check_wrong(self, read, text, line):
        self.assertEqual(raised(read, text), ("BadText", {"line": line}), text)

    def check_bad(self, read, text, part):
        name = "BadMachine" if read is read_machine else "BadPrices"
        self.assertEqual(raised(read, text), (name, {"part": part}), text)


class BothTest(Reading):

    def test_no_strings(self):
        for thing in odd_things() + [text_of(MACHINE).encode(), MACHINE, tuple(PRICES)]:
            if not isinstance(thing, str):
                for read in (read_machine, read_prices):
                    self.check_wrong(read, thing, 0)

    def test_other_strings(self):
        for thing in odd_things():
            if isinstance(thing, str):
                for read in (read_machine, read_prices):
                    self.check_wrong(read, thing, 1)
        self.check_wrong(read_machine, text_of(PRICES), 1)
        self.check_wrong(read_prices, text_of(MACHINE), 1)

    def test_the_empty_string_and_line_feeds_alone(self):
        for read in (read_machine, read_prices):
            for text in ("", "\n", "\n\n\n", " ", " \n"):
                self.check_wrong(read, text, 1)

    def test_what_is_lacking(self):
        for read, lines in ((read_machine, MACHINE), (read_prices, PRICES)):
            # Each beginning of the text lacks something, but for whole standings, and for prices of too few stretches.
            for many in range(len(lines)):
                text = text_of(lines[:many])
                if read is read_machine and many == 4:
                    self.check_bad(read, text, "moves")
                elif read is read_prices and many > 1:
                    self.check_bad(read, text, "table")
                else:
                    self.check_wrong(read, text, many + 1)
                # A line feed that is lacking.
                self.check_wrong(read, text + lines[many], many + 1)
                self.check_wrong(read, text + lines[many][:3], many + 1)
            self.check_wrong(read, text_of(lines)[:-1], len(lines))

    def test_what_stands_behind(self):
        for read, lines in ((read_machine, MACHINE), (read_prices, PRICES)):
            text = text_of(lines)
            for more in (" ", "a", "at 2", "bc 1", "|", "x" * 99):
                self.check_wrong(read, text + more, len(lines) + 1)
            for more in ("\n", "\n\n", " \n", "a\n", "\n" + text, text):
                self.check_wrong(read, text + more, len(lines) + 1)
            # What is wrong in a line comes ahead of what stands behind.
            for number in range(1, len(lines) + 1):
                for more in ("", "a", "\n"):
                    self.check_wrong(read, changed(lines, number, "?") + more, number)

    def test_words_and_blanks(self):
        for read, lines in ((read_machine, MACHINE), (read_prices, PRICES)):
            for number, line in enumerate(lines, 1):
                words = line.split(" ")
                wrong = ["", " ", " " + line, line + " ", line + " 1", line + " a", words[0], words[0] + " ",
                         " ".join(words[1:]), line.replace(" ", "  ", 1), line.replace(" ", "\t"), line + "\r",
                         line.replace(" ", ""), line.replace(" ", ","), line.upper(), "\x0b" + line, line + "\x00",
                         line.replace(" ", "|"), line[:-1] + "x", line[:-1] + "+1", line + ".0", line[:-1] + "1e1"]
                wrong += [" ".join(words[:at] + words[at + 1:]) for at in range(len(words))]
                for other in wrong:
                    if other != line:
                        self.check_wrong(read, changed(lines, number, other), number)

    def test_lines_taken_out_and_put_in(self):
        for number in range(1, len(MACHINE)):
            lines = MACHINE[:number - 1] + MACHINE[number:]
            self.check_wrong(read_machine, text_of(lines), number)
        for number in range(1, len(MACHINE) + 1):
            lines = MACHINE[:number] + MACHINE[number - 1:]
            self.check_wrong(read_machine, text_of(lines), number + 1)
            self.check_wrong(read_machine, text_of(MACHINE[:number] + [""] + MACHINE[number:]), number + 1)
        for number in range(1, len(PRICES) + 1):
            lines = PRICES[:number] + PRICES[number - 1:]
            self.check_wrong(read_prices, text_of(lines), number + 1)
            self.check_wrong(read_prices, text_of(PRICES[:number] + [""] + PRICES[number:]), number + 1)


class MachineTest(Reading):

    def test_what_was_written_is_read(self):
        machines = [drawn_machine(seed, ("a", "ab", "cxz", "abcd")[seed % 4], 1 + seed % 3, 1 + seed % 12, 99)
                    for seed in range(60)] + [M, N, X]
        for machine in machines:
            read = read_machine(machine_text(machine))
            self.assertIs(type(read), Machine)
            self.assertEqual(read, machine)
            self.assertEqual((read.rows, read.answers, read.moves, read.size),
                             (machine.rows, machine.answers, machine.moves, machine.size))
            self.assertEqual(machine_text(read), machine_text(machine))

    def test_plain_text(self):
        read = read_machine(text_of(MACHINE))
        self.assertEqual(read, Machine("ab", 2, ((((1, 0), (2, 1)), ((3, 1), (4, 0))),
                                                 (((5, 0), (6, 0)), ((7, 1), (99, 1))))))

    def test_first_line(self):
        for line in ("machine", "machine ab", "machine ab 0", "machine ab 10", "machine ab 02", "machine ab 00",
                     "machine ab -1", "machine ab +1", "machine ab a", "machine 2 ab", "machine a1 2", "machine aB 2",
                     "machine ^a 2", "machine - 2", "machine  2", "Machine ab 2", "machines ab 2", "prices ab 2",
                     "machine ab 2 2", "machine a b 2", "ab 2", "at 0"):
            self.check_wrong(read_machine, changed(MACHINE, 1, line), 1)

    def test_rows_and_answers_of_any_kind_are_read_to_the_end(self):
        for rows in ("ba", "aa", "abcde", "zyxwvu", "a" * 300):
            for answers in (1, 3, 9):
                lines = [f"machine {rows} {answers}", "at 0"] + [row + " 1 0" * answers for row in rows]
                self.check_bad(read_machine, text_of(lines), "rows")
                self.check_wrong(read_machine, text_of(lines[:-1]), len(lines))
                self.check_wrong(read_machine, text_of(lines[:-1] + ["q" + " 1 0" * answers]), len(lines))
                self.check_wrong(read_machine, text_of(lines + [lines[-1]]), len(lines) + 1)
        for answers in range(1, 10):
            text = text_of([f"machine ab {answers}", "at 0"] + [row + " 1 0" * answers for row in "ab"])
            if answers <= 3:
                self.assertEqual(read_machine(text), Machine("ab", answers, (((((1, 0),) * answers,) * 2),)))
            else:
                self.check_bad(read_machine, text, "answers")

    def test_standings(self):
        for number, due in ((2, 0), (5, 1)):
            for standing in {-1, 0, 1, 2, 10, 123456789} - {due}:
                self.check_wrong(read_machine, changed(MACHINE, number, f"at {standing}"), number)
            for word in ("", "a", "+0", "-0", f"+{due}", f"{due}.", "0x0", "one", f"{due} {due}", "^"):
                self.check_wrong(read_machine, changed(MACHINE, number, f"at {word}"), number)
            for line in (f"At {due}", f"{due}", f"a {due}", f"at{due}", f"standing {due}", MACHINE[number]):
                self.check_wrong(read_machine, changed(MACHINE, number, line), number)
        # The last standing lacks a line, or all of them.
        for many in (5, 6):
            self.check_wrong(read_machine, text_of(MACHINE[:many]), many + 1)
        self.check_wrong(read_machine, text_of(MACHINE + ["at 3"]), 8)
        self.check_wrong(read_machine, text_of(MACHINE + ["at 2"]), 9)

    def test_rows_in_order(self):
        lines = MACHINE[:2] + [MACHINE[3], MACHINE[2]] + MACHINE[4:]
        self.check_wrong(read_machine, text_of(lines), 3)
        for number, row in ((3, "a"), (4, "b"), (6, "a"), (7, "b")):
            words = MACHINE[number - 1].split(" ")[1:]
            for other in {"a", "b", "c", "A", "ab", "^a", "-", "0", "at"} - {row}:
                self.check_wrong(read_machine, changed(MACHINE, number, " ".join([other, *words])), number)

    def test_numbers(self):
        for number in (3, 4, 6, 7):
            words = MACHINE[number - 1].split(" ")
            for at in range(1, 5):
                def text(word):
                    return changed(MACHINE, number, " ".join(words[:at] + [word] + words[at + 1:]))
                for word in ("-1", "+1", "1.0", "1/1", "a", "", "1_0", "0x1", "1e1", "^1", "1" * 10, "0" * 10, "1" * 99,
                             "0" * 9 + "1", "\u0661"):
                    self.check_wrong(read_machine, text(word), number)
                for word in ("9" * 9, "1" * 9, "100", "12"):
                    if at % 2 == 0 or word != "12":
                        self.check_bad(read_machine, text(word), "moves")
                if at % 2:
                    self.check_bad(read_machine, text("0"), "moves")

    def test_needless_zeros(self):
        # Ahead of each number, standings, ticks and goals, also of those that are 0.
        for number in range(2, 8):
            words = MACHINE[number - 1].split(" ")
            for at in range(1, len(words)):
                for zeros in ("0", "00", "0" * (9 - len(words[at])), "0" * 9):
                    line = " ".join(words[:at] + [zeros + words[at]] + words[at + 1:])
                    self.check_wrong(read_machine, changed(MACHINE, number, line), number)
        # The first such line is named, ahead of later lines and of what the machine lacks.
        self.check_wrong(read_machine, text_of(["machine ba 9", "at 00", "b"]), 2)
        self.check_wrong(read_machine, changed(MACHINE[:6], 3, "a 00 0 2 09") + "a", 3)
        lines = ["machine stu 3", "at 0", "s 97 0 040 0 28 0", "t 49 0 95 0 26 0", "u 22 0 64 0 94 0"]
        self.check_wrong(read_machine, text_of(lines), 3)

    def test_zeros_that_are_needed(self):
        lines = ["machine a 1"]
        for here in range(12):
            lines += [f"at {here}", f"a {10 * (here % 9 + 1)} {(here + 10) % 12}"]
        self.assertEqual(read_machine(text_of(lines)).moves,
                         tuple((((10 * (here % 9 + 1), (here + 10) % 12),),) for here in range(12)))
        for number in (22, 24):
            self.check_wrong(read_machine, changed(lines, number, f"at 0{number // 2 - 1}"), number)

    def test_bad_machines(self):
        self.check_bad(read_machine, changed(MACHINE, 3, "a 0 0 2 1"), "moves")
        self.check_bad(read_machine, changed(MACHINE, 3, "a 100 0 2 1"), "moves")
        self.check_bad(read_machine, changed(MACHINE, 3, "a 1 2 2 1"), "moves")
        # Rows ahead of answers, answers ahead of moves.
        self.check_bad(read_machine, "machine ba 4\nat 0\nb" + " 0 9" * 4 + "\na" + " 0 9" * 4 + "\n", "rows")
        self.check_bad(read_machine, "machine ab 4\nat 0\na" + " 0 9" * 4 + "\nb" + " 0 9" * 4 + "\n", "answers")

    def test_more_than_twelve_standings(self):
        for many in (12, 13, 60):
            lines = ["machine a 1"]
            for here in range(many):
                lines += [f"at {here}", f"a 1 {here}"]
            if many == 12:
                self.assertEqual(read_machine(text_of(lines)).size, 12)
            else:
                self.check_bad(read_machine, text_of(lines), "moves")
        machine = machine_of(Rig("abcd", 2, (5, 6, 7, 8), (("kept", (0, 1, 2, 3), 2, 10), ("guess", "abc", 1, 3))))
        self.check_bad(read_machine, machine_text(machine), "moves")

    def test_spoiled_texts_name_the_first_wrong_line(self):
        draw = random.Random(1)
        for _ in range(300):
            numbers = sorted(draw.sample(range(1, len(MACHINE) + 1), 2))
            lines = list(MACHINE)
            for number in numbers:
                lines[number - 1] = draw.choice(["?", "", "at", lines[number - 1] + " 1", "machine"])
            self.check_wrong(read_machine, text_of(lines), numbers[0])


class PricesTest(Reading):

    def test_what_was_written_is_read(self):
        given = [drawn_prices(seed, ("a", "ab", "cxz", "abcd")[seed % 4], 1 + seed % 3) for seed in range(36)]
        given += [book(M, 3)[0], Prices("a", 1, {"a": (10 ** 60 - 1, 10 ** 60 - 2)}),
                  Prices("a", 1, {"a": (1 - 10 ** 60, 1)})]
        for prices in given:
            read = read_prices(prices_text(prices))
            self.assertIs(type(read), Prices)
            self.assertEqual(read, prices)
            self.assertEqual((read.rows, read.width, read.table), (prices.rows, prices.width, prices.table))

    def test_plain_text(self):
        table = {"^a": (1, 2), "^b": (-3, 1), "aa": (0, 1), "ab": (-7, 3), "ba": (12, 1), "bb": (5, 4)}
        self.assertEqual(read_prices(text_of(PRICES)), Prices("ab", 2, table))

    def test_first_line(self):
        for line in ("prices", "prices ab", "prices ab 10", "prices ab 02", "prices ab -1", "prices ab a",
                     "prices 2 ab", "prices aB 2", "prices ^a 2", "prices  2", "Prices ab 2", "price ab 2",
                     "machine ab 2", "prices ab 2 2", "prices a b 2", "prices ab ^"):
            self.check_wrong(read_prices, changed(PRICES, 1, line), 1)

    def test_rows_and_widths_of_any_kind_are_read_to_the_end(self):
        for rows in ("ba", "aa", "abcde", "a" * 300):
            self.check_bad(read_prices, changed(PRICES, 1, f"prices {rows} 2"), "rows")
            self.check_bad(read_prices, changed(PRICES, 1, f"prices {rows} 9"), "rows")
            self.check_wrong(read_prices, text_of([f"prices {rows} 2"]), 2)
        for width in (0, 4, 5, 9):
            self.check_bad(read_prices, changed(PRICES, 1, f"prices ab {width}"), "width")
            self.check_wrong(read_prices, changed([f"prices ab {width}", *PRICES[1:]], 4, "?"), 4)
        for width in (1, 3):
            self.check_bad(read_prices, changed(PRICES, 1, f"prices ab {width}"), "table")
        self.check_bad(read_prices, changed(PRICES, 1, "prices ac 2"), "table")

    def test_stretches(self):
        for number in range(2, 8):
            price = PRICES[number - 1].split(" ")[1]
            for word in ("^", "^^a", "a^", "^a^", "A", "a1", "1", "-", "a-b", "", "|", "a|"):
                self.check_wrong(read_prices, changed(PRICES, number, f"{word} {price}"), number)
        # Words that are stretches of other prices are no wrong lines.
        self.check_bad(read_prices, changed(PRICES, 7, "zzzzzzzz 1"), "table")
        self.check_bad(read_prices, changed(PRICES, 2, "^ 1".replace("^", "^" + "a" * 99)), "table")
        self.check_bad(read_prices, text_of(PRICES + ["bba 1"]), "table")
        self.check_bad(read_prices, text_of(PRICES[:-1]), "table")

    def test_ascending(self):
        for number in range(3, 8):
            # Twice the same, with the same price or another one.
            before = PRICES[number - 2]
            self.check_wrong(read_prices, text_of(PRICES[:number - 1] + [before] + PRICES[number - 1:]), number)
            self.check_wrong(read_prices, changed(PRICES, number, before.split(" ")[0] + " 1"), number)
            lines = list(PRICES)
            lines[number - 2], lines[number - 1] = lines[number - 1], lines[number - 2]
            self.check_wrong(read_prices, text_of(lines), number)
        self.check_wrong(read_prices, "prices ab 1\nb 1\na 1\n", 3)
        self.check_wrong(read_prices, text_of(PRICES[:1] + PRICES[3:] + PRICES[1:3]), 6)
        self.check_wrong(read_prices, "prices ab 1\na 1\n^a 1\n", 3)

    def test_no_stretch(self):
        self.check_wrong(read_prices, "prices ab 1\n", 2)
        self.check_wrong(read_prices, "prices ab 1", 1)
        self.check_wrong(read_prices, "prices ab 1\n\n", 2)

    def test_fractions(self):
        for number in range(2, 8):
            stretch = PRICES[number - 1].split(" ")[0]
            for word in ("1/1", "1/0", "0/1", "0/0", "5/01", "-0", "-00", "-0/5", "--1", "+1", "1/-2", "1/+2", "-", "/",
                         "1/", "/2", "-/2", "1//2", "1/2/3", "1.5", "a", "1/a", "1 /2", "1_0", "1/2_0", "^1", "1e3",
                         "0x1", "\u0661", "- 1", "1" + MANY, "-1" + MANY, "0" + MANY, "1/1" + MANY, "1/0" + MANY,
                         "1" + MANY + "/2"):
                self.check_wrong(read_prices, changed(PRICES, number, f"{stretch} {word}"), number)

    def test_great_fractions(self):
        for word, fraction in ((MANY, (int(MANY), 1)), ("-" + MANY, (-int(MANY), 1)),
                               ("1/" + "9" * 60, (1, 10 ** 60 - 1)), ("-2/" + "9" * 60, (-2, 10 ** 60 - 1))):
            self.assertEqual(read_prices(changed(PRICES, 4, "aa " + word)).table["aa"], fraction)

    def test_needless_zeros(self):
        for number in range(2, 8):
            stretch = PRICES[number - 1].split(" ")[0]
            for word in ("00", "000", "0" * 60, "007", "010", "-07", "-00", "-010", "03/2", "-03/2", "3/02", "-3/02",
                         "03/02", "00/2", "1/00", "1/010", "0" * 59 + "3", "-" + "0" * 59 + "3", "1/" + "0" * 59 + "2",
                         "1/" + "0" * 60, "02/04"):
                self.check_wrong(read_prices, changed(PRICES, number, f"{stretch} {word}"), number)
        # The first such line is named, ahead of later lines and of what the prices lack.
        self.check_wrong(read_prices, text_of(["prices ba 9", "b 01", "a 01"]), 2)
        self.check_wrong(read_prices, "prices x 2\n^x 09\nxx -10\n", 2)
        self.check_wrong(read_prices, "prices x 2\n^x 9\nxx -010\n", 3)

    def test_zeros_that_are_needed(self):
        for word, fraction in (("0", (0, 1)), ("10", (10, 1)), ("-100", (-100, 1)), ("10/3", (10, 3)),
                               ("3/10", (3, 10)), ("-1/200", (-1, 200)), ("1" + "0" * 59, (10 ** 59, 1)),
                               ("1/1" + "0" * 59, (1, 10 ** 59))):
            self.assertEqual(read_prices(changed(PRICES, 4, "aa " + word)).table["aa"], fraction)

    def test_lowest_terms(self):
        for word in ("2/4", "0/2", "-3/9", "6/3", MANY + "/" + MANY, "-2/2"):
            self.check_bad(read_prices, changed(PRICES, 4, "aa " + word), "table")
            # Rows and the width come ahead.
            self.check_bad(read_prices, changed(["prices ba 2", *PRICES[1:]], 4, "aa " + word), "rows")
            self.check_bad(read_prices, changed(["prices ab 0", *PRICES[1:]], 4, "aa " + word), "width")


if __name__ == "__main__":
    unittest.main()

"""Point 5.1: books and lots."""

import unittest
from fractions import Fraction

from stretchprices.books import book, is_book, is_lots, lots
from stretchprices.machines import Machine
from stretchprices.rests import long_price, long_ticks
from stretchprices.rigs import Rig, machine_of
from stretchprices.stretches import Prices, all_stretches
from helpers import ENOUGH, M, MANY, N, X, deep, drawn_machine, odd_things, pair, raised
from slow_books import are_right_lots, can_be_told, is_right_book, made_machine, one_tick_more

NO_WIDTHS = [0, 4, -1, True, False, None, "1", (1,), [1], 10 ** 59]
CALLS = (lambda width: book(M, width), lambda width: lots(M, width),
         lambda width: is_book(M, width, None), lambda width: is_lots(M, width, None))
LOTS = ({((0, ""), "b", 0): 1, ((1, ""), "a", 0): 1}, {((0, ""), "a", 0): 1, ((1, ""), "b", 0): 1})


class JustOneTest(unittest.TestCase):

    def check(self, machine, width, expected=None):
        """That just one of both is there, that it is right, and which one it is."""
        found, apart = book(machine, width), lots(machine, width)
        self.assertEqual(found is None, apart is not None)
        if expected is not None:
            self.assertEqual(found is not None, expected)
        if found is not None:
            self.assertIs(type(found), tuple)
            self.assertEqual((found[0].rows, found[0].width), (machine.rows, width))
            self.assertTrue(is_right_book(machine, width, found))
            self.assertIs(is_book(machine, width, found), True)
            self.assertIs(is_lots(machine, width, found), False)
            self.assertEqual(book(machine, width), found)
        else:
            self.assertIs(type(apart), tuple)
            self.assertTrue(are_right_lots(machine, width, apart))
            self.assertTrue(all(type(many) is int and many > 0 for lot in apart for many in lot.values()))
            self.assertIs(is_lots(machine, width, apart), True)
            self.assertIs(is_lots(machine, width, apart[::-1]), True)
            self.assertIs(is_book(machine, width, apart), False)
            self.assertEqual(lots(machine, width), apart)
        return found is not None

    def test_examples(self):
        self.assertIsNone(book(M, 1))
        self.assertIs(is_lots(M, 1, LOTS), True)
        self.assertTrue(are_right_lots(M, 1, LOTS))
        self.check(M, 1, False)
        self.check(M, 2, True)
        self.check(M, 3, True)
        for width in (1, 2, 3):
            self.check(N, width, True)

    def test_ticks_in_turns(self):
        # Row a takes 1 and 2 ticks in turns, so that its price is half of 3.
        turns = Machine("a", 1, ((((1, 1),),), (((2, 0),),)))
        for width in (1, 2, 3):
            self.check(turns, width, True)
            self.assertEqual(book(turns, width)[0].table["a" * width], (3, 2))

    def test_what_is_in_no_piece_does_not_matter(self):
        # The first row takes 50 ticks, all further ones take 1.
        machine = Machine("ab", 1, ((((50, 1),), ((99, 1),)), (((1, 1),), ((1, 1),))))
        self.check(machine, 1, True)
        # Two pieces that want unlike prices.
        machine = Machine("ab", 1, ((((1, 1),), ((1, 2),)), (((1, 1),), ((1, 1),)), (((2, 2),), ((1, 2),))))
        self.check(machine, 1, False)
        self.check(machine, 3, False)
        # Two pieces that want the same prices.
        machine = Machine("ab", 1, ((((1, 1),), ((1, 2),)), (((7, 1),), ((5, 1),)), (((7, 2),), ((5, 2),))))
        self.check(machine, 1, True)
        self.assertEqual(book(machine, 1)[0].table, {"a": (7, 1), "b": (5, 1)})

    def test_drawn_ones(self):
        books = 0
        for seed in range(300):
            rows, answers, most = (("ab", 1, 2), ("a", 2, 2), ("abc", 1, 9), ("a", 1, 99), ("ab", 2, 99))[seed % 5]
            machine = drawn_machine(seed, rows, answers, 1 + seed % 4, most)
            for width in (1, 2, 3):
                books += self.check(machine, width, can_be_told(machine, width))
        self.assertTrue(100 < books < 600)

    def test_greater_ones(self):
        for seed in range(12):
            machine = drawn_machine(seed, "abcd"[:2 + seed % 3], 1 + seed % 3, 9 + seed % 4, 99)
            for width in (1, 2, 3):
                self.check(machine, width)

    def test_ticks_made_of_prices_and_heights(self):
        spoiled = 0
        for seed in range(60):
            for width in (1, 2, 3):
                rows = ("ab", "a", "abc")[seed % 3] if width < 3 else ("ab", "a")[seed % 2]
                machine = made_machine(seed, width, rows)
                for wider in range(width, 4):
                    self.check(machine, wider, True)
                other = one_tick_more(seed, machine)
                for wider in (1, 2, 3):
                    spoiled += not self.check(other, wider, can_be_told(other, wider))
        self.assertGreater(spoiled, 100)

    def test_rigs(self):
        gap = machine_of(Rig("abcd", 3, (1, 2, 3, 4), (("gap", "ac", "bc", 10),)))
        self.assertEqual([self.check(gap, width) for width in (1, 2, 3)], [False, True, True])
        couple = machine_of(Rig("abc", 1, (9, 9, 9), (("couple", ("ab", "ca"), 3),)))
        # Behind the couple "ca", row b does not gain.
        self.assertEqual([self.check(couple, width) for width in (1, 2, 3)], [False, False, True])
        couple = machine_of(Rig("abc", 1, (9, 9, 9), (("couple", ("ab", "ac"), 3),)))
        self.assertEqual([self.check(couple, width) for width in (1, 2, 3)], [False, True, True])
        twice = machine_of(Rig("ab", 1, (9, 9), (("couple", ("aa", "ab"), 3),)))
        self.assertEqual([self.check(twice, width) for width in (1, 2, 3)], [False, False, False])
        answer = machine_of(Rig("ab", 2, (1, 1), (("answer", ((0, 1), (0, 0))),)))
        self.assertEqual([self.check(answer, width) for width in (1, 2, 3)], [False, False, False])
        kept = machine_of(Rig("abcd", 1, (1, 1, 1, 1), (("kept", (0, 1, 2, 3), 2, 1),)))
        self.assertEqual([self.check(kept, width) for width in (1, 2, 3)], [False, False, False])
        kept = machine_of(Rig("abc", 1, (1, 1, 1), (("kept", (0, 1, 2), 1, 1),)))
        self.assertEqual([self.check(kept, width) for width in (1, 2, 3)], [False, True, True])

    def test_rests_of_runs_lie_between_two_numbers_just_with_a_book(self):
        for seed in range(30):
            width = 1 + seed % 3
            machine = made_machine(seed, width, "ab")
            prices, heights = book(machine, width)
            levels = [Fraction(*height) for height in heights.values()]
            bound = 3 * 99 + 3 * sum(abs(Fraction(*worth)) for worth in prices.table.values())
            bound += max(levels) - min(levels)
            for run in (("a", (0,)), ("ba", (0, 0)), ("abb", (0, 0, 0))):
                long = ((run, 10 ** 25),)
                self.assertLess(abs(long_ticks(machine, long) - Fraction(*long_price(prices, long))), bound)

    def test_lots_as_long_runs(self):
        # Each lot of these is a round of its own, so that a run goes it as often as one likes.
        prices = Prices("ab", 1, {"a": (3, 2), "b": (1, 1)})
        one = ((("ba", (0, 0)), 10 ** 30),)
        other = ((("a", (0,)), 10 ** 30), (("b", (0,)), 10 ** 30))
        self.assertEqual(long_price(prices, one), long_price(prices, other))
        self.assertEqual(long_ticks(M, one) - long_ticks(M, other), 10 ** 30)


class OrderOfErrorsTest(unittest.TestCase):

    def test_no_width(self):
        for width in NO_WIDTHS + odd_things():
            for call in CALLS:
                self.assertEqual(raised(call, width), ("NoWidth", {}), width)

    def test_too_many(self):
        machine = machine_of(MANY)
        for thing in (None, book(machine, 1), ({}, {}), deep("tuple")):
            for call in (lambda width: book(machine, width), lambda width: lots(machine, width),
                         lambda width: is_book(machine, width, thing), lambda width: is_lots(machine, width, thing)):
                self.assertEqual(raised(call, 3), ("TooMany", {"most": 300}))
                self.assertEqual(raised(call, 0), ("NoWidth", {}))
                self.assertIsNone(raised(call, 2))

    def test_just_enough(self):
        machine = machine_of(ENOUGH)
        self.assertIsNone(book(machine, 3))
        self.assertTrue(is_lots(machine, 3, lots(machine, 3)))
        self.assertTrue(are_right_lots(machine, 3, lots(machine, 3)))


class JudgedTest(unittest.TestCase):

    def refused(self, judge, machine, width, thing):
        """That a thing is judged False and stays as it was."""
        before = repr(thing)
        self.assertIs(judge(machine, width, thing), False)
        self.assertEqual(repr(thing), before)

    def test_other_things(self):
        right = book(M, 2)
        for thing in odd_things():
            for judge, width in ((is_book, 2), (is_lots, 1)):
                self.refused(judge, M, width, thing)
                self.refused(judge, M, width, (thing, thing))
            self.refused(is_book, M, 2, (thing, right[1]))
            self.refused(is_book, M, 2, (right[0], thing))
            if thing != {}:
                self.refused(is_lots, M, 1, (thing, LOTS[1]))
                self.refused(is_lots, M, 1, (LOTS[0], thing))
        for judge, width, both in ((is_book, 2, right), (is_lots, 1, LOTS)):
            self.refused(judge, M, width, list(both))
            self.refused(judge, M, width, (*both, None))
            self.refused(judge, M, width, both[:1])
            self.refused(judge, M, width, {0: both[0], 1: both[1]})
        self.refused(is_book, M, 2, right[::-1])
        self.refused(is_book, M, 2, (right[0].table, right[1]))

    def test_books_of_prices_that_do_not_fit(self):
        for machine in (M, N):
            for width in (2, 3):
                prices, heights = book(machine, width)
                for other in (1, 2, 3):
                    if other != width:
                        self.refused(is_book, machine, other, (prices, heights))
                        table = {name: (1, 1) for name in all_stretches("ab", other)}
                        self.refused(is_book, machine, width, (Prices("ab", other, table), heights))
                table = {name.replace("b", "c"): worth for name, worth in prices.table.items()}
                self.refused(is_book, machine, width, (Prices("ac", width, table), heights))
                table = {name: (1, 1) for name in all_stretches("abc", width)}
                self.refused(is_book, machine, width, (Prices("abc", width, table), heights))

    def test_spoiled_prices(self):
        machine = made_machine(3, 2)
        prices, heights = book(machine, 2)
        for name, (top, bottom) in prices.table.items():
            table = prices.table
            table[name] = (top + bottom, bottom)
            thing = (Prices("ab", 2, table), heights)
            # No step inside a piece ends a stretch that begins with the code.
            self.assertIs(is_book(machine, 2, thing), name[0] == "^")

    def test_spoiled_heights(self):
        for machine, width in ((M, 2), (made_machine(3, 2), 2), (made_machine(4, 3), 3), (made_machine(5, 1), 1)):
            prices, heights = book(machine, width)
            self.assertTrue(is_book(machine, width, (prices, dict(reversed(list(heights.items()))))))
            for place, (top, bottom) in heights.items():
                lacking = {key: heights[key] for key in heights if key != place}
                self.refused(is_book, machine, width, (prices, lacking))
                for worth in [(top + bottom, bottom), (2 * top, 2 * bottom), (-top, -bottom), [top, bottom], top, None,
                              (top, True), (True, 1), (top,), (top, bottom, 1), (top, 0), "0", deep("tuple"),
                              deep("dict")]:
                    if len(heights) > 1 or worth not in ((top + bottom, bottom),):
                        self.refused(is_book, machine, width, (prices, {**heights, place: worth}))
                here, tail = place
                for key in [(here, tail, 0), (here,), here, tail, None, (str(here), tail), (tail, here),
                            (here + 99, tail), (here, tail + "a"), (here, "^" + tail), (-1, tail), (here, None),
                            ((here,), tail), deep("tuple")]:
                    self.refused(is_book, machine, width, (prices, {**lacking, key: (top, bottom)}))
                    self.refused(is_book, machine, width, (prices, {**heights, key: (0, 1)}))
                if here < 2:
                    self.refused(is_book, machine, width, (prices, {**lacking, (bool(here), tail): (top, bottom)}))

    def test_heights_of_places_in_no_piece(self):
        prices, heights = book(M, 2)
        self.refused(is_book, M, 2, (prices, {**heights, (0, "^"): (0, 1)}))

    def test_heights_may_all_be_higher(self):
        prices, heights = book(M, 2)
        for more in (5, -7, Fraction(2, 3)):
            higher = {place: pair(Fraction(*heights[place]) + more) for place in heights}
            self.assertTrue(is_book(M, 2, (prices, higher)))
        twice = {place: pair(2 * Fraction(*heights[place])) for place in heights}
        self.refused(is_book, M, 2, (prices, twice))

    def test_spoiled_lots(self):
        machines = [(M, 1, LOTS)] + [(machine, width, lots(machine, width)) for machine, width in (
            (X, 1), (X, 3), (drawn_machine(1, "ab", 2, 3, 9), 2), (drawn_machine(2, "abc", 1, 4, 9), 1))]
        for machine, width, both in machines:
            self.assertTrue(is_lots(machine, width, both))
            self.assertTrue(is_lots(machine, width, tuple({key: 5 * lot[key] for key in lot} for lot in both)))
            self.refused(is_lots, machine, width, (both[0], both[0]))
            for at in (0, 1):
                for step, many in both[at].items():
                    for lot in self.spoiled(both[at], step, many):
                        thing = (lot, both[1]) if at == 0 else (both[0], lot)
                        self.refused(is_lots, machine, width, thing)

    def spoiled(self, lot, step, many):
        """Lots that are like this one but for this step."""
        lacking = {key: lot[key] for key in lot if key != step}
        yield lacking
        for number in (many + 1, -many, 0, True, None, (many,), [many], str(many), (many, 1), deep("list")):
            yield {**lot, step: number}
        (here, tail), row, answer = step
        others = [((here, tail), row, answer + 5), ((here, tail), row, -1), ((here, tail), "z", answer), (here, tail),
                  ((here + 50, tail), row, answer), ((here, tail + "a"), row, answer), ((here, "^"), row, answer),
                  ((here, tail), row), ((here, tail), row, answer, 0), (here, tail, row, answer), None, 0, "step",
                  ((str(here), tail), row, answer), ((here, tail), row, str(answer)), ((here, tail), (row,), answer),
                  ((here, tail), row, None), ((here, tail), None, answer), (None, row, answer), deep("tuple")]
        if here < 2:
            others.append(((bool(here), tail), row, answer))
        if answer < 2:
            others.append(((here, tail), row, bool(answer)))
        for other in others:
            yield {**lacking, other: many}
            if other not in lot:
                yield {**lot, other: 1}

    def test_lots_with_unlike_stretches_or_like_ticks(self):
        self.refused(is_lots, M, 1, ({}, {}))
        self.refused(is_lots, M, 1, ({}, LOTS[0]))
        self.refused(is_lots, M, 1, ({key: 2 for key in LOTS[0]}, LOTS[1]))
        self.refused(is_lots, M, 1, (LOTS[0], {((0, ""), "a", 0): 3, ((1, ""), "b", 0): 3}))
        # For the width 2 steps that begin the code are in no piece.
        self.refused(is_lots, M, 2, ({((0, "^"), "a", 0): 1}, {}))
        # Of N, all rounds with the same rows take the same ticks.
        self.refused(is_lots, N, 1, ({((0, ""), "a", 0): 1}, {((0, ""), "a", 0): 1}))
        # Steps between pieces are in none.
        machine = Machine("ab", 1, ((((1, 0),), ((5, 1),)), (((2, 1),), ((2, 1),))))
        right = ({((0, ""), "a", 0): 1}, {((1, ""), "a", 0): 1})
        self.assertTrue(is_lots(machine, 1, right))
        between = {((0, ""), "b", 0): 1}
        self.refused(is_lots, machine, 1, ({**right[0], **between}, {**right[1], ((1, ""), "b", 0): 1}))
        # As many steps lead to each place as away, each counted as often as its number tells.
        uneven = ({((0, ""), "b", 0): 2, ((1, ""), "a", 0): 2}, {((0, ""), "a", 0): 2, ((1, ""), "b", 0): 2})
        self.assertTrue(is_lots(M, 1, uneven))
        self.refused(is_lots, M, 1, ({((0, ""), "b", 0): 2, ((1, ""), "a", 0): 1, ((0, ""), "a", 0): 1}, uneven[1]))

    def test_numbers_of_lots_are_from_1_on(self):
        # These would be lots but for the numbers 0 or below.
        rounds = {((0, ""), "a", 0): 1, ((1, ""), "b", 0): 1}
        for many in (0, -1, -5):
            self.refused(is_lots, M, 1, (LOTS[0], {**LOTS[1], ((0, ""), "b", 0): many, ((1, ""), "a", 0): many}))
            self.refused(is_lots, M, 1, ({**LOTS[0], **{step: many for step in rounds}}, {
                step: 1 + many for step in rounds}))
        self.refused(is_lots, M, 1, ({}, {**rounds, ((0, ""), "b", 0): -1, ((1, ""), "a", 0): -1}))

    def test_great_numbers(self):
        great = 10 ** 59 + 1
        self.assertTrue(is_lots(M, 1, tuple({key: great for key in lot} for lot in LOTS)))
        prices, heights = book(M, 2)
        higher = {place: (heights[place][0] + great * heights[place][1], heights[place][1]) for place in heights}
        self.assertTrue(is_book(M, 2, (prices, higher)))

    def test_dicts_that_a_caller_changes(self):
        found = book(M, 2)
        again = dict(found[1])
        found[1].clear()
        self.assertEqual(book(M, 2)[1], again)
        apart = lots(M, 1)
        kept = (dict(apart[0]), dict(apart[1]))
        apart[0].clear()
        apart[1].clear()
        self.assertEqual(lots(M, 1), kept)


if __name__ == "__main__":
    unittest.main()

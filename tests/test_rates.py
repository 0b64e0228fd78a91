"""Points 8.3 and 8.4: rates, one number for two machines, and codes that cross."""

import random
import unittest
from fractions import Fraction

from stretchprices.machines import Machine
from stretchprices.rates import crossing, is_rate_paper, one_number, rate
from stretchprices.rests import long_ticks
from stretchprices.rigs import Rig, machine_of
from helpers import M, N, X, deep, drawn_machine, drawn_run, odd_things, pair, raised, walk
from slow_ways import both, longest, pair_links, ring_machine, same, spoiled_fractions

AMOUNTS = (0, 1, 10 ** 30)


def times_more(machine, many):
    """The same machine with all ticks taken that many times."""
    return Machine(machine.rows, machine.answers, tuple(tuple(tuple((spent * many, to) for spent, to in pairs)
                                                              for pairs in item) for item in machine.moves))


def late_machine(seed, machine):
    """A machine that begins with a standing of its own, and then goes on like the other one, but for ticks drawn."""
    draw = random.Random(seed)
    moved = tuple(tuple(tuple((spent, to + 1) for spent, to in pairs) for pairs in item) for item in machine.moves)
    first = tuple(tuple((draw.randint(1, 99), to + 1) for _, to in pairs) for pairs in machine.moves[0])
    return Machine(machine.rows, machine.answers, (first,) + moved)


def levels_at(one, other, part, sign=1):
    """The greatest (for the sign -1 the least) of the ticks in the one less part times those in the other, or None."""
    links = pair_links(one, other, (0, 0), same(one.answers))
    found = longest([(here, int(sign * (spent * part.denominator - part.numerator * other_spent)), to)
                     for here, _, spent, other_spent, to in links], (0, 0))
    return found and {spot: Fraction(sign * level, part.denominator) for spot, level in found.items()}


def parts_of(one, other, told):
    """The ticks of a round behind a run in both machines, or None where it does not lead back."""
    run, circle = told
    here, there = walk(one, run)[1], walk(other, run)[1]
    spent, to = walk(one, circle, here)
    other_spent, other_to = walk(other, circle, there)
    return (spent, other_spent) if (to, other_to, circle[0] != "") == (here, there, True) else None


def couples():
    """Pairs of machines with the same rows and as many answers."""
    yield M, N
    for seed in range(60):
        rows, answers = (("ab", 2), ("a", 1), ("abc", 1), ("a", 3), ("ab", 1))[seed % 5]
        one = drawn_machine(seed, rows, answers, 1 + seed % 7, (4, 99)[seed % 2])
        other = drawn_machine(seed + 1000, rows, answers, 1 + seed % 5, 99)
        yield one, other
        yield one, one
        yield late_machine(seed, one), one
        yield times_more(drawn_machine(seed, rows, answers, 4, 9), 7), late_machine(seed, drawn_machine(
            seed, rows, answers, 4, 9))
    for size in range(1, 13):
        draw = random.Random(size)
        yield (ring_machine(tuple(draw.randint(1, 99) for _ in range(size))),
               ring_machine(tuple(draw.randint(1, 99) for _ in range(1 + size % 5))))


class RateTest(unittest.TestCase):

    def test_examples(self):
        self.assertEqual((rate(M, N)[0], rate(N, M)[0]), ((3, 2), (1, 1)))
        self.assertEqual(rate(ring_machine((3, 4)), ring_machine((1, 1, 8)))[0], (21, 20))

    def test_told_rounds_and_no_greater_ones(self):
        for one, other in couples():
            for left, right in ((one, other), (other, one)):
                part, run, circle = rate(left, right)
                spent, other_spent = parts_of(left, right, (run, circle))
                self.assertEqual(part, pair(Fraction(spent, other_spent)))
                # The ticks less this rate have a greatest number, and with any lesser rate this round rises.
                self.assertIsNotNone(levels_at(left, right, Fraction(*part)))
                self.assertIsNone(levels_at(left, right, Fraction(*part) - Fraction(1, 10 ** 6)))

    def test_no_drawn_round_has_more(self):
        draw = random.Random(4)
        for seed in range(40):
            one, other = drawn_machine(seed, "ab", 2, 3, 9), drawn_machine(seed + 50, "ab", 2, 2, 9)
            part = Fraction(*rate(one, other)[0])
            for _ in range(40):
                run, step = drawn_run(draw, "ab", 2, draw.randrange(4)), drawn_run(draw, "ab", 2, draw.randint(1, 3))
                for _ in range(4):
                    run = both(run, step)
                circle = step
                for _ in range(6):
                    found = parts_of(one, other, (run, circle))
                    self.assertTrue(found is None or Fraction(*found) <= part)
                    circle = both(circle, step)

    def test_itself(self):
        for machine in (M, N, X, drawn_machine(1), machine_of(Rig("ab", 1, (3, 3), (("buffer", "a", 3, 2),)))):
            self.assertEqual(rate(machine, machine)[0], (1, 1))

    def test_ticks_taken_some_times(self):
        for seed in range(20):
            machine = drawn_machine(seed, "ab", 2, 1 + seed % 5, 9)
            for many in (2, 3, 11):
                self.assertEqual(rate(times_more(machine, many), machine)[0], (many, 1))
                self.assertEqual(rate(machine, times_more(machine, many))[0], (1, many))
                self.assertEqual(rate(times_more(machine, 6), times_more(machine, 4))[0], (3, 2))

    def test_other_rows(self):
        for other in (drawn_machine(1, "abc", 1), drawn_machine(1, "ab", 2), X, drawn_machine(1, "ac", 1)):
            for left, right in ((M, other), (other, M)):
                self.assertEqual(raised(rate, left, right), ("OtherRows", {}))
                self.assertEqual(raised(one_number, left, right), ("OtherRows", {}))
                for thing in (1, None, -1):
                    self.assertEqual(raised(crossing, left, right, thing), ("OtherRows", {}))
                for thing in ((1, 1), None, 1):
                    self.assertEqual(raised(is_rate_paper, left, right, thing, None), ("OtherRows", {}))


class PaperTest(unittest.TestCase):

    def refused(self, one, other, part, thing):
        """That a thing is judged False and stays as it was."""
        before = repr(thing)
        self.assertIs(is_rate_paper(one, other, part, thing), False, thing)
        self.assertEqual(repr(thing), before)

    def paper(self, one, other, part):
        return {spot: pair(level) for spot, level in levels_at(one, other, part).items()}

    def test_at_the_rate_above_and_below(self):
        for one, other in list(couples())[::3]:
            part = Fraction(*rate(one, other)[0])
            for more in (0, Fraction(1, 3), 10 ** 30):
                thing = self.paper(one, other, part + more)
                self.assertIs(is_rate_paper(one, other, pair(part + more), thing), True)
                lower = {spot: pair(Fraction(*level) - 5) for spot, level in thing.items()}
                self.assertIs(is_rate_paper(one, other, pair(part + more), lower), True)
            thing = self.paper(one, other, part)
            for less in (Fraction(1, 10 ** 9), part, part + 1, 2 * part + 10 ** 30):
                self.refused(one, other, pair(part - less), thing)
            # A paper for a greater rate is none for this one, but for what the round leaves.
            self.assertIs(is_rate_paper(one, other, pair(part + 1), thing),
                          self.lets(one, other, part + 1, thing))

    def lets(self, one, other, part, thing):
        return all(Fraction(*thing[here]) + spent - part * other_spent <= Fraction(*thing[to])
                   for here, _, spent, other_spent, to in pair_links(one, other, (0, 0), same(one.answers)))

    def test_numbers_may_be_of_any_sign(self):
        self.assertIs(is_rate_paper(N, N, (1, 1), {(0, 0): (-7, 3)}), True)
        self.assertIs(is_rate_paper(N, N, (3, 2), {(0, 0): (7, 3)}), True)
        self.refused(N, N, (2, 3), {(0, 0): (7, 3)})
        self.refused(N, N, (-1, 1), {(0, 0): (0, 1)})
        self.refused(N, N, (0, 1), {(0, 0): (0, 1)})
        thing = {(0, 0): (-9, 1), (1, 0): (-19, 2)}
        self.assertIs(is_rate_paper(M, N, (3, 2), thing), True)
        self.refused(M, N, (149, 100), thing)
        self.refused(M, N, (3, 2), {**thing, (1, 0): (-9, 1)})
        self.refused(M, N, (3, 2), {**thing, (1, 0): (-10, 1)})

    def test_spoiled(self):
        for seed in range(12):
            one = drawn_machine(seed, "ab", 1 + seed % 2, 3, 9)
            other = drawn_machine(seed + 7, "ab", 1 + seed % 2, 2, 9)
            part, _, _ = rate(one, other)
            thing = self.paper(one, other, Fraction(*part))
            self.assertIs(is_rate_paper(one, other, part, dict(reversed(list(thing.items())))), True)
            for spot, level in thing.items():
                lacking = {key: thing[key] for key in thing if key != spot}
                self.refused(one, other, part, lacking)
                for worth in spoiled_fractions(level) + [deep("tuple"), deep("dict")]:
                    self.refused(one, other, part, {**thing, spot: worth})
                here, there = spot
                keys = [(here,), here, (here, there, 0), (here, str(there)), None, (here, other.size), (-1, there),
                        (one.size, there), (here, None), ((here, there),), "ab", deep("tuple", ())]
                keys += [(bool(here), there)] if here < 2 else []
                keys += [(here, bool(there))] if there < 2 else []
                for key in keys:
                    self.refused(one, other, part, {**lacking, key: level})
                    if key not in thing:
                        self.refused(one, other, part, {**thing, key: level})

    def test_the_pair_of_the_empty_run(self):
        # Standing 1 of this machine goes round alone.
        machine = Machine("a", 1, ((((1, 1),),), (((2, 1),),)))
        self.assertIs(is_rate_paper(machine, machine, (1, 1), {(0, 0): (0, 1), (1, 1): (0, 1)}), True)
        self.refused(machine, machine, (1, 1), {(1, 1): (0, 1)})
        self.refused(machine, machine, (1, 1), {})

    def test_other_things(self):
        for thing in odd_things():
            self.refused(M, N, (3, 2), thing)
            self.refused(M, N, (3, 2), {(0, 0): (0, 1), (1, 0): thing})
        self.refused(M, N, (3, 2), [((0, 0), (0, 1)), ((1, 0), (-1, 2))])
        self.assertIs(is_rate_paper(M, N, (3, 2), {(0, 0): (0, 1), (1, 0): (-1, 2)}), True)

    def test_no_fraction(self):
        for part in odd_things() + spoiled_fractions((3, 2)):
            self.assertEqual(raised(is_rate_paper, M, N, part, None), ("NoFraction", {}), part)
        for part in ((-3, 2), (0, 1), (10 ** 59, 7)):
            self.assertIsNone(raised(is_rate_paper, M, N, part, None))


class OneNumberTest(unittest.TestCase):

    def check(self, one, other):
        """That one_number and crossing are told right; whether there is one number."""
        found = one_number(one, other)
        greatest, least = Fraction(*rate(one, other)[0]), 1 / Fraction(*rate(other, one)[0])
        self.assertEqual(found[0], "number" if greatest == least else "two")
        if greatest == least:
            above, below = levels_at(one, other, greatest), levels_at(one, other, greatest, -1)
            self.assertEqual(found, ("number", pair(greatest), pair(min(below.values())), pair(max(above.values()))))
            for amount in AMOUNTS:
                self.assertIsNone(crossing(one, other, amount))
            return True
        (spent, other_spent), (second, other_second) = [parts_of(one, other, told) for told in found[1:]]
        self.assertGreater(spent * other_second, second * other_spent)
        self.assertEqual(len(found), 3)
        for amount in AMOUNTS:
            first, last = crossing(one, other, amount)
            self.assertLessEqual(long_ticks(one, first), long_ticks(one, last) - amount)
            self.assertGreaterEqual(long_ticks(other, first), long_ticks(other, last) + amount)
        return False

    def test_examples(self):
        self.assertEqual(one_number(M, N)[0], "two")
        self.assertEqual(one_number(N, N), ("number", (1, 1), (0, 1), (0, 1)))
        self.assertEqual(one_number(ring_machine((3, 4)), ring_machine((1, 1, 8))),
                         ("number", (21, 20), (-1, 2), (49, 10)))

    def test_both_ways_about(self):
        kinds = {True: 0, False: 0}
        for one, other in couples():
            forth = self.check(one, other)
            self.assertEqual(self.check(other, one), forth)
            kinds[forth] += 1
        self.assertGreater(min(kinds.values()), 30)

    def test_differences_of_drawn_runs(self):
        draw = random.Random(12)
        for seed in range(30):
            one = drawn_machine(seed, "ab", 2, 3, 9)
            for left, right in ((late_machine(seed, times_more(one, 3)), one), (one, late_machine(seed, one))):
                word, part, least, greatest = one_number(left, right)
                for _ in range(30):
                    run = drawn_run(draw, "ab", 2, draw.randrange(9))
                    off = walk(left, run)[0] - Fraction(*part) * walk(right, run)[0]
                    self.assertTrue(Fraction(*least) <= off <= Fraction(*greatest))

    def test_rounds_that_cross_by_little(self):
        # Row a takes 98 of 99 ticks, row b 97 of 98: nearly the same parts; the way to them is off the other way about.
        one = Machine("ab", 1, ((((98, 0),), ((97, 0),)),))
        other = Machine("ab", 1, ((((99, 0),), ((98, 0),)),))
        self.assertFalse(self.check(one, other))
        self.assertFalse(self.check(late_machine(1, one), late_machine(2, other)))

    def test_ways_to_rounds_that_are_off_the_other_way_about(self):
        # Row a leads to a round of 98 and 99 ticks, row b to one of 97 and 98: each turn is ahead by 1 in both machines.
        for begun in (((1, 99), (99, 1)), ((1, 99), (1, 1)), ((1, 1), (99, 1)), ((99, 1), (1, 99)), ((50, 50), (1, 9))):
            one, other = [Machine("ab", 1, ((((first, 1),), ((second, 2),)), (((spans[0], 1),),) * 2,
                                            (((spans[1], 2),),) * 2))
                          for (first, second), spans in zip(begun, ((98, 97), (99, 98)))]
            self.assertFalse(self.check(one, other))
            self.assertFalse(self.check(other, one))

    def test_no_number(self):
        for amount in [-1, 10 ** 30 + 1, True, False, "1", (1,), [0], (0, 1)] + [
                thing for thing in odd_things() if thing != 0 or isinstance(thing, bool)]:
            for one, other in ((M, N), (N, N)):
                self.assertEqual(raised(crossing, one, other, amount), ("NoNumber", {}), amount)


if __name__ == "__main__":
    unittest.main()

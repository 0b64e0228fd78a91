"""Point 9.1: odd turns, where a kinder answer ends later."""

import random
import unittest

from stretchprices.machines import Machine
from stretchprices.odd import is_even_paper, odd, worst_odd
from stretchprices.rigs import Rig, machine_of
from helpers import M, N, X, all_runs, deep, drawn_machine, odd_things, raised, walk
from slow_ways import kinder, longest, pair_links, sloping_machine, spoiled_integers


def is_kinder(one, other):
    return one[0] == other[0] and all(low <= high for low, high in zip(one[1], other[1], strict=True))


def odd_links(machine):
    return [(pair, spent - other_spent, to)
            for pair, _, spent, other_spent, to in pair_links(machine, machine, (0, 0), kinder(machine.answers))]


def fewest_rows(machine, most=10 ** 4):
    """With how few rows a kinder run can take more ticks, or None, by the best sums of just so many rows."""
    links = odd_links(machine)
    heights = longest(links, (0, 0))
    if heights is not None and max(heights.values()) == 0:
        return None
    sums = {(0, 0): 0}
    for many in range(1, most):
        behind = {}
        for here, worth, to in links:
            if here in sums:
                behind[to] = max(behind.get(to, -10 ** 9), sums[here] + worth)
        sums = behind
        if max(sums.values()) > 0:
            return many
    raise AssertionError("no odd turn with so few rows")


def two_rings(first, second, ways=(1, 99)):
    """A machine in which the first row's answers lead into two rings with these ticks, and take these ticks."""
    size = 1 + len(first) + len(second)
    if size > 12:
        raise ValueError("too many standings")
    moves = [(((ways[0], 1), (ways[1], 1 + len(first))),)]
    for begin, spans in ((1, first), (1 + len(first), second)):
        for at, spent in enumerate(spans):
            moves.append((((spent, begin + (at + 1) % len(spans)),) * 2,))
    return Machine("a", 2, tuple(moves))


def machines():
    for seed in range(150):
        rows, answers = (("ab", 2), ("a", 2), ("a", 3), ("abc", 2), ("ab", 3))[seed % 5]
        yield drawn_machine(seed, rows, answers, 1 + seed % 6, (2, 9, 99)[seed % 3])
        yield sloping_machine(seed, rows, answers, 2 + seed % 4, 3)
        # The greater an answer is, the more ticks it takes, and it leads nowhere else: these are even.
        draw = random.Random(seed)
        goals = [[draw.randrange(4) for _ in rows] for _ in range(4)]
        yield Machine(rows, answers, tuple(
            tuple(tuple((draw.randint(1, 5) + 5 * answer, to) for answer in range(answers)) for to in goal)
            for goal in goals))
    for rig in (Rig("ab", 2, (9, 9), (("guess", "a", 2, 3),)), Rig("ab", 3, (9, 9), (("guess", "ab", 1, 3),)),
                Rig("ab", 2, (1, 1), (("answer", ((0, 1), (0, 0))),)),
                Rig("ab", 2, (1, 1), (("answer", ((1, 0), (0, 0))),)),
                Rig("abc", 3, (1, 1, 2), (("answer", ((1, 2, 3), (0, 0, 4), (5, 5, 5))), ("gap", "ab", "c", 4)))):
        yield machine_of(rig)


class OddTest(unittest.TestCase):

    def check(self, machine):
        """That odd and worst_odd tell right things; the kind of what they tell."""
        found, told = odd(machine), worst_odd(machine)
        rows = fewest_rows(machine)
        self.assertEqual(found is None, rows is None)
        self.assertEqual(found is None, told[:2] == ("most", 0))
        if found is not None:
            kind, other = found
            self.assertTrue(is_kinder(kind, other))
            self.assertEqual(len(kind[0]), rows)
            self.assertGreater(walk(machine, kind)[0], walk(machine, other)[0])
            self.assertIs(type(found), tuple)
        levels = longest(odd_links(machine), (0, 0))
        if levels is None:
            self.check_round(machine, told)
            return "round"
        word, number, (kind, other) = told
        self.assertEqual((word, number), ("most", max(levels.values())))
        self.assertTrue(is_kinder(kind, other))
        self.assertEqual(walk(machine, kind)[0] - walk(machine, other)[0], number)
        return "even" if found is None else "most"

    def check_round(self, machine, told):
        word, (kind, other), (circle, second) = told
        self.assertEqual(word, "round")
        self.assertTrue(is_kinder(kind, other) and is_kinder(circle, second) and circle[0] != "")
        here, there = walk(machine, kind)[1], walk(machine, other)[1]
        spent, to = walk(machine, circle, here)
        other_spent, other_to = walk(machine, second, there)
        self.assertEqual((to, other_to), (here, there))
        self.assertGreater(spent, other_spent)

    def test_examples(self):
        self.assertEqual(odd(X)[0][0], "aa")
        self.assertEqual(odd(X), (("aa", (0, 0)), ("aa", (0, 1))))
        for machine in (M, N):
            self.assertIsNone(odd(machine))
            self.assertEqual(worst_odd(machine)[:2], ("most", 0))
        self.assertEqual(worst_odd(X)[0], "round")

    def test_drawn_ones(self):
        kinds = {}
        for machine in machines():
            kind = self.check(machine)
            kinds[kind] = kinds.get(kind, 0) + 1
        self.assertTrue(all(kinds.get(kind, 0) > 40 for kind in ("even", "most", "round")), kinds)

    def test_machines_of_one_answer_are_even(self):
        for seed in range(60):
            machine = drawn_machine(seed, "abcd"[:1 + seed % 4], 1, 1 + seed % 12, 99)
            self.assertIsNone(odd(machine))
            word, number, (kind, other) = worst_odd(machine)
            self.assertEqual((word, number, kind), ("most", 0, other))

    def test_against_all_runs(self):
        for seed in range(60):
            machine = drawn_machine(seed, "a", 2, 1 + seed % 4, 3)
            turns = [(len(other[0]), walk(machine, one)[0] - walk(machine, other)[0])
                     for one in all_runs("a", 2, 5) for other in all_runs("a", 2, 5)
                     if len(one[0]) == len(other[0]) and is_kinder(one, other)]
            rows = min((many for many, more in turns if more > 0), default=None)
            found = odd(machine)
            if rows is not None:
                self.assertEqual(len(found[0][0]), rows)
            else:
                self.assertTrue(found is None or len(found[0][0]) > 5)
            word, number, _ = worst_odd(machine)
            self.assertTrue(word == "round" or number >= max(more for _, more in turns))

    def test_odd_turns_with_many_rows(self):
        # The kinder way is ahead by 98 first, and then slower by 1 in each turn of a ring.
        for first, second, rows in (((2,), (1,), 1 + 99), ((2, 1, 1), (1, 1, 1), 1 + 98 * 3 + 1),
                                    ((1, 1, 1, 1, 2), (1, 1, 1), 1 + 98 * 5 + 5)):
            machine = two_rings(first, second)
            self.assertEqual(self.check(machine), "round")
            self.assertEqual(len(odd(machine)[0][0]), rows)
        machine = two_rings((5, 5, 5, 5, 6), (5, 5, 5, 5, 5, 6))
        self.assertEqual(self.check(machine), "round")
        self.assertGreater(len(odd(machine)[0][0]), 2500)
        self.assertIsNone(odd(two_rings((5, 5, 5, 5, 6), (5, 5, 6))))

    def test_an_odd_turn_that_does_not_go_on(self):
        # Only the second row is slower behind the kinder answer.
        machine = Machine("a", 2, ((((1, 1), (2, 2)),), (((9, 3),) * 2,), (((3, 3),) * 2,), (((4, 3),) * 2,)))
        self.assertEqual(self.check(machine), "most")
        self.assertEqual(worst_odd(machine)[1], 5)
        self.assertEqual(odd(machine), (("aa", (0, 0)), ("aa", (1, 0))))

    def test_equal_ticks_are_even(self):
        self.assertIsNone(odd(Machine("a", 3, ((((4, 0),) * 3,),))))
        self.assertEqual(len(odd(Machine("a", 3, ((((4, 0), (4, 0), (3, 0)),),)))[0][0]), 1)

    def test_greater_ones(self):
        for seed in range(4):
            self.check(drawn_machine(seed, "ab", 3, 12, 99))
        self.check(machine_of(Rig("ab", 3, (5, 9), (("guess", "ab", 2, 3), ("buffer", "a", 3, 4)))))


class PaperTest(unittest.TestCase):

    def refused(self, machine, bound, thing):
        """That a thing is judged False and stays as it was."""
        before = repr(thing)
        self.assertIs(is_even_paper(machine, bound, thing), False, thing)
        self.assertEqual(repr(thing), before)

    def papers(self):
        """Machines, the greatest number of ticks more, and a paper for it."""
        for machine in list(machines())[::4]:
            levels = longest(odd_links(machine), (0, 0))
            if levels is not None:
                yield machine, max(levels.values()), levels

    def test_at_the_number_above_and_below(self):
        many = {True: 0, False: 0}
        for machine, number, thing in self.papers():
            many[number == 0] += 1
            for bound in (number, number + 1, 10 ** 59):
                self.assertIs(is_even_paper(machine, bound, thing), True)
            for bound in (number - 1, -1, -10 ** 59):
                self.refused(machine, bound, thing)
            higher = {pair: level + 3 for pair, level in thing.items()}
            self.assertIs(is_even_paper(machine, number + 3, higher), True)
            self.refused(machine, number + 2, higher)
            self.assertIs(is_even_paper(machine, 10 ** 9, {pair: level - 1 for pair, level in thing.items()}),
                          thing[0, 0] > 0)
        self.assertGreater(min(many.values()), 15)

    def test_spoiled(self):
        for machine, number, thing in list(self.papers())[::6] + [(N, 0, {(0, 0): 0}), (M, 0, {(0, 0): 0, (1, 1): 0})]:
            self.assertIs(is_even_paper(machine, number, dict(reversed(list(thing.items())))), True)
            for pair, level in thing.items():
                lacking = {key: thing[key] for key in thing if key != pair}
                self.refused(machine, number, lacking)
                for worth in spoiled_integers(level) + [deep("tuple"), deep("dict"), number + 1]:
                    self.refused(machine, number, {**thing, pair: worth})
                if level == 0 and len(thing) == 1:
                    self.refused(machine, number, {pair: -1})
                here, there = pair
                keys = [(here,), here, (here, there, 0), (here, str(there)), None, (here, machine.size),
                        (machine.size, there), (-1, there), (here, None), ((here, there),), "ab", deep("tuple", ())]
                keys += [(bool(here), there)] if here < 2 else []
                keys += [(here, bool(there))] if there < 2 else []
                for key in keys:
                    self.refused(machine, number, {**lacking, key: level})
                    if key not in thing:
                        self.refused(machine, number, {**thing, key: level})

    def test_each_pair_of_answers_counts(self):
        # The answers 0 and 2 alone are odd.
        machine = Machine("a", 3, ((((4, 0), (4, 0), (3, 0)),),))
        self.refused(machine, 10 ** 9, {(0, 0): 0})
        # Two answers that lead to unlike standings: their pair has to stand there, and the other way about need not.
        machine = Machine("a", 2, ((((1, 0), (2, 1)),), (((3, 1), (3, 1)),)))
        self.assertIs(is_even_paper(machine, 0, {(0, 0): 0, (0, 1): -1, (1, 1): 0}), True)
        self.refused(machine, 0, {(0, 0): 0, (0, 1): -1})
        self.refused(machine, 0, {(0, 0): 0, (1, 0): -1, (1, 1): 0})
        self.refused(machine, 0, {(0, 0): 0, (0, 1): -2, (1, 1): 0})
        self.refused(machine, 0, {(0, 0): 0, (0, 1): -1, (1, 1): -1})
        self.refused(machine, 0, {(0, 0): 0, (0, 1): 0, (1, 1): 1})

    def test_the_pair_of_the_empty_runs(self):
        machine = Machine("a", 1, ((((1, 1),),), (((2, 1),),)))
        self.assertIs(is_even_paper(machine, 0, {(0, 0): 0, (1, 1): 0}), True)
        self.refused(machine, 0, {(1, 1): 0})
        self.refused(machine, 0, {})
        self.refused(machine, 0, {(0, 0): -1, (1, 1): 0})
        self.assertIs(is_even_paper(machine, 0, {(0, 0): 0, (1, 1): 0, (0, 1): -5}), True)

    def test_the_fact(self):
        # There is a paper with the bound 0 exactly if the machine is even: the greatest sums are the least paper.
        for machine in list(machines())[::2]:
            levels = longest(odd_links(machine), (0, 0))
            if levels is not None:
                self.assertIs(is_even_paper(machine, 0, levels), odd(machine) is None)

    def test_no_paper_where_a_round_rises(self):
        for level in (0, 10, 10 ** 30):
            for more in (0, 1, 5):
                pairs = {(0, 0): level, (0, 1): level + more, (1, 0): level, (1, 1): level + more}
                self.refused(X, 10 ** 59, pairs)

    def test_other_things(self):
        for thing in odd_things():
            self.refused(M, 0, thing)
            if thing != 0 or isinstance(thing, bool):
                self.refused(M, 0, {(0, 0): 0, (1, 1): thing})
        self.refused(M, 0, [((0, 0), 0), ((1, 1), 0)])
        self.refused(M, 0, ({(0, 0): 0, (1, 1): 0},))

    def test_no_number(self):
        for bound in [thing for thing in odd_things() if type(thing) is not int] + [True, False, (0, 1), "0", [0]]:
            self.assertEqual(raised(is_even_paper, M, bound, {(0, 0): 0, (1, 1): 0}), ("NoNumber", {}), bound)
        self.assertIsNone(raised(is_even_paper, M, -10 ** 59, None))


if __name__ == "__main__":
    unittest.main()

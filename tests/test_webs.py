"""Points 4.1 and 4.2: places and pieces."""

import unittest

from stretchprices.machines import Machine
from stretchprices.rigs import machine_of
from stretchprices.webs import pieces, places
from helpers import ENOUGH, M, MANY, N, X, all_runs, drawn_machine, odd_things, raised, walk

NO_WIDTHS = [0, 4, -1, True, False, None, "1", (1,), [1], 10 ** 59]


def place_behind(machine, width, run):
    """The place to which a run leads, by the words of the document."""
    code = run[0]
    tail = "" if width == 1 else code[1 - width:] if len(code) >= width - 1 else "^" + code
    return walk(machine, run)[1], tail


def goals_of(machine, width, place):
    """The places to which the steps of a place lead."""
    here, tail = place
    found = []
    for at, row in enumerate(machine.rows):
        code = tail.replace("^", "") + row
        for _, there in machine.moves[here][at]:
            run_tail = "" if width == 1 else code[1 - width:] if len(code) >= width - 1 else "^" + code
            found.append((there, run_tail))
    return found


def slow_pieces(machine, width, spots):
    """All pieces, by which place leads to which one."""
    number = {place: at for at, place in enumerate(spots)}
    leads = [{number[goal] for goal in goals_of(machine, width, place)} for place in spots]
    for middle in range(len(spots)):
        for row in leads:
            if middle in row:
                row |= leads[middle]
    return sorted({tuple(other for other in range(len(spots)) if other in leads[at] and at in leads[other])
                   for at in range(len(spots)) if at in leads[at]})


class PlacesTest(unittest.TestCase):

    def test_examples(self):
        self.assertEqual(places(M, 1), [(0, ""), (1, "")])
        self.assertEqual(places(M, 2), [(0, "^"), (0, "a"), (1, "b")])
        self.assertEqual(places(M, 3), [(0, "^"), (0, "^a"), (1, "^b"), (0, "aa"), (1, "ab"), (0, "ba"), (1, "bb")])
        self.assertEqual(places(N, 1), [(0, "")])
        self.assertEqual(places(X, 2), [(0, "^"), (1, "a"), (0, "a")])

    def test_in_the_order_of_the_earliest_runs(self):
        for seed in range(90):
            rows, answers, most = (("ab", 2, 5), ("abc", 1, 6), ("a", 3, 6))[seed % 3]
            machine = drawn_machine(seed, rows, answers, 1 + seed % 4)
            for width in (1, 2, 3):
                seen = []
                for run in all_runs(rows, answers, most):
                    place = place_behind(machine, width, run)
                    if place not in seen:
                        seen.append(place)
                found = places(machine, width)
                self.assertEqual(found[:len(seen)], seen)
                self.assertTrue(all(goal in found for place in found for goal in goals_of(machine, width, place)))
                self.assertEqual(len(found), len(set(found)))

    def test_code_is_compared_ahead_of_answers(self):
        # "aa" with answers 1, 0 comes ahead of "ab" with answers 0, 0.
        machine = Machine("ab", 2, (
            (((1, 1), (1, 2)), ((1, 5), (1, 5))),
            (((1, 5), (1, 5)), ((1, 3), (1, 5))),
            (((1, 4), (1, 5)), ((1, 5), (1, 5))),
            *(((((1, here),) * 2,) * 2) for here in (3, 4, 5))))
        self.assertEqual(places(machine, 1), [(here, "") for here in (0, 1, 2, 5, 4, 3)])

    def test_the_earliest_of_the_runs_to_one_place(self):
        # Standing 3 is reached by "ab" with answers 0, 0 and earlier by "aa" with answers 1, 0: ahead of standing 4.
        last = [((1, here),) * 2 for here in range(6)]
        machine = Machine("ab", 2, (
            (((1, 1), (1, 2)), last[5]), (last[5], ((1, 3), (1, 5))), (((1, 3), (1, 4)), last[5]),
            *((last[here], last[here]) for here in (3, 4, 5))))
        self.assertEqual(places(machine, 1), [(here, "") for here in (0, 1, 2, 5, 3, 4)])

    def test_many_answers(self):
        for seed in range(400):
            machine = drawn_machine(seed, "ab", 2, 6 + seed % 7)
            seen = dict.fromkeys(place_behind(machine, 1, run) for run in all_runs("ab", 2, 3))
            self.assertEqual(places(machine, 1)[:len(seen)], list(seen))

    def test_no_width(self):
        for width in NO_WIDTHS + odd_things():
            self.assertEqual(raised(places, M, width), ("NoWidth", {}), width)
            self.assertEqual(raised(pieces, M, width), ("NoWidth", {}), width)

    def test_too_many(self):
        machine = machine_of(MANY)
        for call in (places, pieces):
            self.assertEqual(raised(call, machine, 3), ("TooMany", {"most": 300}))
            self.assertIsNone(raised(call, machine, 1))
            for width in (0, True, None):
                self.assertEqual(raised(call, machine, width), ("NoWidth", {}))

    def test_just_300_and_301(self):
        found = places(machine_of(ENOUGH), 3)
        self.assertEqual((len(found), len(set(found))), (300, 300))
        start = [(0, "^")]
        for place in start:
            start += [goal for goal in dict.fromkeys(goals_of(machine_of(MANY), 3, place)) if goal not in start]
        self.assertEqual(len(start), 301)
        self.assertEqual(raised(places, machine_of(MANY), 3), ("TooMany", {"most": 300}))

    def test_lists_that_a_caller_changes(self):
        for call in (places, pieces):
            found = call(M, 2)
            again = list(found)
            found.clear()
            self.assertEqual(call(M, 2), again)


class PiecesTest(unittest.TestCase):

    def test_examples(self):
        self.assertEqual(pieces(M, 1), [(0, 1)])
        self.assertEqual(pieces(M, 2), [(1, 2)])
        self.assertEqual(pieces(M, 3), [(3, 4, 5, 6)])
        self.assertEqual(pieces(N, 1), [(0,)])

    def test_several_pieces_and_places_in_none(self):
        # 0 leads to 1 and 3, 1 and 2 lead to each other, 3 leads to 4 and 4 to itself.
        machine = Machine("ab", 1, ((((1, 1),), ((1, 3),)), (((1, 2),),) * 2, (((1, 1),),) * 2,
                                    (((1, 4),),) * 2, (((1, 4),),) * 2))
        self.assertEqual(places(machine, 1), [(0, ""), (1, ""), (3, ""), (2, ""), (4, "")])
        self.assertEqual(pieces(machine, 1), [(1, 3), (4,)])
        chain = Machine("a", 1, tuple((((1, min(here + 1, 5)),),) for here in range(6)))
        self.assertEqual(pieces(chain, 1), [(5,)])
        self.assertEqual(pieces(chain, 3), [(5,)])
        circle = Machine("a", 1, tuple((((1, (here + 1) % 6),),) for here in range(6)))
        self.assertEqual(pieces(circle, 1), [(0, 1, 2, 3, 4, 5)])
        self.assertEqual(pieces(circle, 2), [(1, 2, 3, 4, 5, 6)])

    def test_a_place_that_leads_to_itself_and_away(self):
        machine = Machine("ab", 1, ((((1, 0),), ((1, 1),)), (((1, 1),), ((1, 1),))))
        self.assertEqual(pieces(machine, 1), [(0,), (1,)])

    def test_drawn_ones(self):
        many = 0
        for seed in range(200):
            rows, answers = (("ab", 1), ("a", 2), ("abc", 1), ("a", 1))[seed % 4]
            machine = drawn_machine(seed, rows, answers, 1 + seed % 12)
            for width in (1, 2, 3):
                found = pieces(machine, width)
                self.assertEqual(found, slow_pieces(machine, width, places(machine, width)))
                many += len(found) > 1
        self.assertGreater(many, 20)


if __name__ == "__main__":
    unittest.main()

"""Part 0, over the whole program: errors, arguments, answers that are new and equal, and sizes of what is passed on."""

import copy
import inspect
import unittest

from stretchprices import (bench, best, books, bounds, broken, desk, errors, exact, leads, machines, measured, meters,
                           odd, orders, programs, rates, reading, rests, rigs, stretches, texts, turns, webs)
from stretchprices.bench import Bench
from stretchprices.desk import Desk
from stretchprices.machines import Machine
from stretchprices.rigs import Rig
from stretchprices.stretches import Prices
from helpers import M, N, drawn_machine, drawn_prices, deep, odd_things, raised
from test_interface import INTERFACE, told_items

FILES = (bench, best, books, bounds, broken, desk, exact, leads, machines, measured, meters, odd, orders, programs,
         rates, reading, rests, rigs, stretches, texts, turns, webs)
BIG = Rig("abcd", 2, (5, 6, 7, 8), (("kept", (0, 1, 2, 3), 2, 10), ("guess", "abc", 1, 3)))


def things():
    """Right arguments by their names in the interface, made anew."""
    machine = Machine("ab", 1, ((((1, 0),), ((1, 1),)), (((2, 0),), ((1, 1),))))
    prices = Prices("ab", 2, {"^a": (1, 1), "^b": (1, 1), "aa": (1, 1), "ab": (1, 1), "ba": (2, 1), "bb": (1, 1)})
    return {
        "machine": machine, "one": machine, "other": Machine("ab", 1, ((((1, 0),), ((1, 0),)),)), "prices": prices,
        "rig": Rig("ab", 1, (1, 1), (("gap", "b", "a", 1),)), "run": ("aba", (0, 0, 0)), "standing": 1, "first": 1,
        "second": 0, "code": "aba", "width": 2, "rows": "ab", "long": ((("ab", (0, 0)), 3),), "bound": (1, 1),
        "amount": 7, "rate": (3, 2), "meter": meters.meter_ticks(machine), "meters": [meters.meter_ticks(machine)],
        "weights": ((1, 1),), "m": 6, "measures": [("ab", (2, 1)), ("aba", (4, 1))], "slack": (1, 2),
        "codes": ["ab", "ba", "aba"], "program": (("times", 2, 3, (("rows", "ba"),)),), "befores": [(0, 2)],
        "text": "machine a 1\nat 0\na 1 0\n",
    }


# The functions whose bound is an integer.
INTEGERS = ("is_lead_paper", "is_even_paper")
ERRORS = {"run": "NoRun", "standing": "NoStanding", "first": "NoStanding", "second": "NoStanding", "code": "NoCode",
          "width": "NoWidth", "rows": "NoRows", "long": "NoLong", "bound": "NoFraction", "amount": "NoNumber",
          "rate": "NoFraction", "meter": "NoMeter", "meters": "NoMeters", "weights": "NoWeights", "m": "NoNumber",
          "measures": "NoMeasures", "slack": "NoSlack", "codes": "NoCodes", "program": "NoProgram",
          "befores": "NoBefores", "text": "BadText"}


def functions():
    """All functions of the interface, by their names, with the names of their arguments."""
    for file in FILES:
        for name, function in vars(file).items():
            if inspect.isfunction(function) and function.__module__ == file.__name__ and listed(file, name):
                yield name, function, list(inspect.signature(function).parameters)


def listed(file, name):
    """Whether the interface lists the name in this file."""
    return name in dict(told_items(INTERFACE[file.__name__.split(".")[1]]))


def right(name, arguments):
    """Right arguments of a function, made anew."""
    given = things()
    if name in INTEGERS:
        given["bound"] = 7
    if name == "read_prices":
        given["text"] = "prices a 1\na 1\n"
    given["thing"] = None
    return [given[argument] for argument in arguments]


def is_judged(name, arguments, at):
    return name.startswith("is_") and at == len(arguments) - 1


def spoil(thing):
    """Spoil all lists and dicts in a thing."""
    if isinstance(thing, (list, tuple)):
        for each in thing:
            spoil(each)
    if isinstance(thing, dict):
        for each in thing.values():
            spoil(each)
        thing["spoiled"] = 1
    if isinstance(thing, list):
        thing.append("spoiled")
        thing[0] = "spoiled"


class GeneralTest(unittest.TestCase):

    def test_all_functions_are_looked_at(self):
        names = [name for name, _, _ in functions()]
        self.assertGreater(len(names), 70)
        self.assertEqual({argument for _, _, arguments in functions() for argument in arguments} - set(things()),
                         {"thing"})

    def test_right_arguments(self):
        for name, function, arguments in functions():
            self.assertIsNone(raised(function, *right(name, arguments)), name)

    def test_odd_arguments_raise_just_their_errors(self):
        for name, function, arguments in functions():
            for at, argument in enumerate(arguments):
                if is_judged(name, arguments, at) or argument not in ERRORS:
                    continue
                error = "NoNumber" if name in INTEGERS and argument == "bound" else ERRORS[argument]
                for thing in odd_things() + [deep("tuple", {}), deep("list", ()), deep("dict", []), deep("tuple", M)]:
                    given = right(name, arguments)
                    given[at] = thing
                    found = raised(function, *given)
                    # Some odd things are right for some arguments.
                    self.assertIn(found and found[0], self.errors_of(argument, error), (name, argument, thing))
                for thing in (deep("tuple"), deep("list"), deep("dict"), None, object(), len, Machine, M, b"ab", [1]):
                    given = right(name, arguments)
                    given[at] = thing
                    self.assertEqual(raised(function, *given)[0], error, (name, argument, thing))

    def errors_of(self, argument, error):
        """The errors that an odd thing in the place of an argument may raise."""
        # What is right there can be wrong for what stands behind it.
        behind = {"code": ("NoBefores",), "measures": ("NoWeights",), "meters": ("NoWeights",), "rows": ("NoMeasures",)}
        return (None, error, *behind.get(argument, ()))

    def test_odd_arguments_are_judged(self):
        for name, function, arguments in functions():
            if name.startswith("is_"):
                for thing in odd_things() + [deep("tuple", {}), deep("dict", []), (deep("dict"), deep("dict")), M,
                                             {deep("tuple", 1, 30): 1}, {(0, 0): deep("tuple")}, ({1: 1}, {2: 2})]:
                    given = right(name, arguments)
                    given[-1] = thing
                    self.assertIn(function(*given), (True, False), (name, thing))
                    self.assertIs(type(function(*given)), bool)

    def test_errors_have_just_their_fields(self):
        for name, function, arguments in functions():
            for at, argument in enumerate(arguments):
                if not is_judged(name, arguments, at) and argument in ERRORS:
                    given = right(name, arguments)
                    given[at] = None
                    with self.assertRaises(errors.StretchError) as caught:
                        function(*given)
                    self.assertEqual(vars(caught.exception), {"line": 0} if argument == "text" else {}, name)
                    self.assertEqual(type(caught.exception).__bases__, (errors.StretchError,))

    def test_other_rows_ahead_of_all_other_errors(self):
        for name, function, arguments in functions():
            for one, two in (("machine", "prices"), ("one", "other")):
                if not {one, two} <= set(arguments):
                    continue
                given = dict(zip(arguments, right(name, arguments)))
                given[two] = drawn_prices(1, "abc", 1) if two == "prices" else drawn_machine(1, "abc", 1)
                self.assertEqual(raised(function, *given.values()), ("OtherRows", {}), name)
                for argument in arguments:
                    if argument not in ("machine", "prices", "one", "other"):
                        given[argument] = None
                self.assertEqual(raised(function, *given.values()), ("OtherRows", {}), name)

    def test_arguments_stay(self):
        for name, function, arguments in functions():
            given = right(name, arguments)
            kept = [copy.deepcopy(thing) for thing in given]
            function(*given)
            self.assertEqual(given, kept, name)

    def test_answers_are_new(self):
        for name, function, arguments in functions():
            given = right(name, arguments)
            answer = function(*given)
            kept = copy.deepcopy(answer)
            spoil(answer)
            self.assertEqual(function(*given), kept, name)
            spoil([thing for thing in given if not isinstance(thing, str)])

    def test_equal_calls_have_equal_answers(self):
        for name, function, arguments in functions():
            self.assertEqual(function(*right(name, arguments)), function(*right(name, arguments)), name)

    def test_tables_with_another_order_of_keys(self):
        for name, function, arguments in functions():
            if "prices" in arguments:
                given = dict(zip(arguments, right(name, arguments)))
                answer = function(*given.values())
                table = dict(reversed(list(given["prices"].table.items())))
                given["prices"] = Prices("ab", 2, table)
                self.assertEqual(function(*given.values()), answer, name)

    def test_attributes_give_new_dicts(self):
        prices = things()["prices"]
        for _ in range(2):
            table = prices.table
            self.assertEqual(table, things()["prices"].table)
            self.assertIsNot(prices.table, table)
            table.clear()
        made = {"a": (1, 1), "b": (1, 1)}
        prices = Prices("ab", 1, made)
        made["a"] = (7, 1)
        self.assertEqual(prices.table, {"a": (1, 1), "b": (1, 1)})

    def test_objects_equal_nothing_of_another_kind(self):
        made = [M, drawn_prices(1), Rig("a", 1, (1,), ()), Bench(M, drawn_prices(1)), Desk()]
        for thing in made:
            for other in odd_things() + made:
                if type(other) is not type(thing):
                    self.assertIs(thing == other, False)
                    self.assertIs(other == thing, False)
                    self.assertIs(thing != other, True)
            self.assertIs(thing == thing, True)

    def test_what_was_returned_may_be_passed_on(self):
        machine = rigs.machine_of(BIG)
        self.assertGreater(machine.size, 12)
        given = {**things(), "machine": machine, "one": machine, "other": machines.smallest(machine),
                 "prices": drawn_prices(1, "abcd", 2), "run": ("ab" * 300, (0, 1) * 300), "rows": "abcd",
                 "code": "abcdab", "meter": meters.meter_ticks(machine), "meters": [meters.meter_ticks(machine)] * 2,
                 "weights": ((1, 2), (1, 2)), "long": ((("ab" * 300, (0, 1) * 300), 10 ** 50),), "standing": 20,
                 "first": 13, "second": 20, "m": 1, "thing": None}
        for name, function, arguments in functions():
            if {"machine", "one"} & set(arguments):
                given["bound"] = 7 if name in INTEGERS else (1, 1)
                found = raised(function, *[given[argument] for argument in arguments])
                if name in ("best", "balance"):
                    self.assertEqual(found, ("TooMany", {"most": 16}))
                else:
                    self.assertIsNone(found, name)

    def test_long_codes_that_were_returned(self):
        ring = Machine("ab", 1, tuple((((1, (here + 1) % 12),), ((1 + (here == 0), here),)) for here in range(12)))
        one, other = exact.unlike(ring, 10000)
        self.assertGreater(len(one[0]), 9999)
        for run in (one, other):
            spent = machines.ticks(ring, run)
            self.assertEqual(rests.rest(ring, Prices("ab", 1, {"a": (0, 1), "b": (0, 1)}), run), (spent, 1))
            self.assertEqual(orders.worst(ring, run[0]), spent)
            self.assertEqual(meters.reading(ring, meters.meter_ticks(ring), run), spent)
            self.assertEqual(len(stretches.stretches(run[0], 3)), len(run[0]))
            free = measured.fitting("ab", 3, [(run[0], (1, 3))])
            self.assertEqual(stretches.price(free, run[0]), (1, 3))
            bench = Bench(ring, free)
            self.assertEqual(bench.run(), ("", ()))

    def test_no_recursion_error(self):
        # Chains of standings and of rounds that are as long as may be.
        for machine in (N, rigs.machine_of(BIG)):
            for function in (exact.ring, exact.fork, exact.least_exact, odd.odd, odd.worst_odd, machines.smallest):
                self.assertIsNone(raised(function, machine))
        for kind in ("tuple", "list", "dict"):
            for name, function, arguments in functions():
                if name.startswith("is_"):
                    given = right(name, arguments)
                    given[-1] = deep(kind, deep("tuple", 1, 20), 20)
                    self.assertIs(function(*given), False)


if __name__ == "__main__":
    unittest.main()

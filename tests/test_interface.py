"""The interface of the document, as far as it is built: where its names are defined, and with which arguments."""

import ast
import importlib
import inspect
import pathlib
import unittest

FOLDER = pathlib.Path(__file__).resolve().parent.parent / "stretchprices"
INTERFACE = {
    "machines": """Machine(rows, answers, moves)
        ticks(machine, run) standing(machine, run) ticks_from(machine, standing, run)
        standing_from(machine, standing, run) alike(one, other) parting(one, other) smallest(machine)""",
    "rigs": "Rig(rows, answers, base, parts) machine_of(rig)",
    "stretches": "stretches(code, width) all_stretches(rows, width) Prices(rows, width, table) price(prices, code)",
    "rests": "rest(machine, prices, run) long_ticks(machine, long) long_price(prices, long)",
    "webs": "places(machine, width) pieces(machine, width)",
    "books": """book(machine, width) lots(machine, width) is_book(machine, width, thing)
        is_lots(machine, width, thing)""",
    "bounds": """ceiling(machine, prices) floor(machine, prices) is_ceiling(machine, prices, bound, thing)
        is_floor(machine, prices, bound, thing) most(machine, prices) fewest(machine, prices) gap(machine, prices)""",
    "broken": "broken(machine, prices, amount)",
    "exact": """is_exact_width(machine, width) is_unlike(machine, width, thing) is_ring(machine, thing)
        is_fork(machine, thing) exact(machine, width) unlike(machine, width) fork(machine) least_exact(machine)
        ring(machine)""",
    "best": "best(machine, width) balance(machine, width) is_balance(machine, width, bound, thing)",
    "leads": """lead(machine, first, second) ahead(one, other)
        is_lead_paper(machine, first, second, bound, thing)""",
    "rates": """rate(one, other) is_rate_paper(one, other, rate, thing) one_number(one, other)
        crossing(one, other, amount)""",
    "odd": "odd(machine) worst_odd(machine) is_even_paper(machine, bound, thing)",
    "meters": """meter_ticks(machine) meter_of(one, other) reading(machine, meter, run)
        mixture(machine, meter, meters) meter_lots(machine, meter, meters)
        is_meter_lots(machine, meter, meters, thing) spread(machine, meter, meters, weights)
        least_meters(machine, meters)""",
    "turns": "turns(machine, meter) rests(machine, meter, m) parting_rests(machine, meter, m)",
    "measured": """fitting(rows, width, measures) clash(rows, width, measures) sure(rows, width, measures, code)
        between(rows, width, measures, slack, code) is_side(rows, width, measures, slack, code, bound, weights)
        enough_codes(rows, width, codes)""",
    "programs": """extremes(machine, program) price_extremes(prices, program)
        told_extremes(machine, prices, program) does(rows, program, code)""",
    "orders": """orders(code, befores) worst(machine, code) quickest(machine, code, befores)
        cheapest(prices, code, befores) waste(machine, prices, code, befores)""",
    "texts": "machine_text(machine) prices_text(prices)",
    "reading": "read_machine(text) read_prices(text)",
    "bench": "Bench(machine, prices)",
    "desk": "Desk()",
}
METHODS = {
    ("bench", "Bench"): """put(row, answer) insert(place, row, answer) strike(place) turn(place, answer) run() ticks()
        price() rest() rests() back() depth() lowest() trying(action) copy()""",
    ("desk", "Desk"): "tell(line) undoable()",
}


def told_items(told):
    """The pairs of a name and the list of its arguments."""
    for item in told.replace(")", ")\n").splitlines():
        name, _, arguments = item.strip().rstrip(")").partition("(")
        if name:
            yield name, arguments.split(", ") if arguments else []


class InterfaceTest(unittest.TestCase):

    def test_names_and_arguments(self):
        for file, told in INTERFACE.items():
            module = importlib.import_module("stretchprices." + file)
            tree = ast.parse((FOLDER / (file + ".py")).read_text(encoding="utf-8"))
            defined = {node.name for node in tree.body if isinstance(node, (ast.FunctionDef, ast.ClassDef))}
            for name, arguments in told_items(told):
                self.assertIn(name, defined, file)
                parameters = list(inspect.signature(getattr(module, name)).parameters)
                self.assertEqual(parameters, arguments, (file, name))

    def test_methods_stand_in_their_classes(self):
        for file, name in (("machines", "Machine"), ("rigs", "Rig"), ("stretches", "Prices")):
            made = getattr(importlib.import_module("stretchprices." + file), name)
            self.assertIn("__eq__", vars(made))
        for (file, name), told in METHODS.items():
            made = getattr(importlib.import_module("stretchprices." + file), name)
            for method, arguments in told_items(told):
                self.assertIn(method, vars(made))
                self.assertEqual(list(inspect.signature(vars(made)[method]).parameters), ["self"] + arguments)


if __name__ == "__main__":
    unittest.main()

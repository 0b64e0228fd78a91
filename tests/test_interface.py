"""The interface of the document, as far as it is built: where its names are defined, and with which arguments."""

import ast
import importlib
import inspect
import pathlib
import unittest

FOLDER = pathlib.Path(__file__).resolve().parent.parent / "stretchprices"
INTERFACE = {
    "machines": """Machine(rows, answers, moves)
        ticks(machine, run) standing(machine, run) ticks_from(machine, standing, run)
        standing_from(machine, standing, run) alike(one, other) parting(one, other) smallest(machine)""",
    "rigs": "Rig(rows, answers, base, parts) machine_of(rig)",
    "stretches": "stretches(code, width) all_stretches(rows, width) Prices(rows, width, table) price(prices, code)",
    "rests": "rest(machine, prices, run) long_ticks(machine, long) long_price(prices, long)",
    "webs": "places(machine, width) pieces(machine, width)",
    "books": """book(machine, width) lots(machine, width) is_book(machine, width, thing)
        is_lots(machine, width, thing)""",
    "bounds": """ceiling(machine, prices) floor(machine, prices) is_ceiling(machine, prices, bound, thing)
        is_floor(machine, prices, bound, thing) most(machine, prices) fewest(machine, prices) gap(machine, prices)""",
    "broken": "broken(machine, prices, amount)",
    "exact": """is_exact_width(machine, width) is_unlike(machine, width, thing) is_ring(machine, thing)
        is_fork(machine, thing) exact(machine, width) unlike(machine, width) fork(machine) least_exact(machine)
        ring(machine)""",
    "best": "best(machine, width) balance(machine, width) is_balance(machine, width, bound, thing)",
    "leads": """lead(machine, first, second) ahead(one, other)
        is_lead_paper(machine, first, second, bound, thing)""",
    "rates": """rate(one, other) is_rate_paper(one, other, rate, thing) one_number(one, other)
        crossing(one, other, amount)""",
    "odd": "odd(machine) worst_odd(machine) is_even_paper(machine, bound, thing)",
    "meters": """meter_ticks(machine) meter_of(one, other) reading(machine, meter, run)
        mixture(machine, meter, meters) meter_lots(machine, meter, meters)
        is_meter_lots(machine, meter, meters, thing) spread(machine, meter, meters, weights)
        least_meters(machine, meters)""",
}


class InterfaceTest(unittest.TestCase):

    def test_names_and_arguments(self):
        for file, told in INTERFACE.items():
            module = importlib.import_module("stretchprices." + file)
            tree = ast.parse((FOLDER / (file + ".py")).read_text(encoding="utf-8"))
            defined = {node.name for node in tree.body if isinstance(node, (ast.FunctionDef, ast.ClassDef))}
            for item in told.replace(")", ")\n").splitlines():
                name, _, arguments = item.strip().rstrip(")").partition("(")
                if name:
                    self.assertIn(name, defined, file)
                    parameters = list(inspect.signature(getattr(module, name)).parameters)
                    self.assertEqual(parameters, arguments.split(", "), (file, name))

    def test_methods_stand_in_their_classes(self):
        for file, name in (("machines", "Machine"), ("rigs", "Rig"), ("stretches", "Prices")):
            made = getattr(importlib.import_module("stretchprices." + file), name)
            self.assertIn("__eq__", vars(made))


if __name__ == "__main__":
    unittest.main()

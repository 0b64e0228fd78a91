"""Point 0.3 and the interface of errors.py."""

import inspect
import pickle
import unittest

from stretchprices import errors
from helpers import deep, odd_things

PLAIN = """NoStanding NoRun OtherRows NoCode NoWidth NoRows NoLong NoFraction NoNumber NoMeter NoMeters NoWeights
NoMeasures Clash NoSlack NoCodes NoProgram NoBefores NoPlace NoRow NoAnswer NothingDone NoLine""".split()
FIELDS = {"BadMachine": "part", "BadRig": "part", "BadPrices": "part", "TooMany": "most", "BadText": "line",
          "NoName": "name"}


class ErrorsTest(unittest.TestCase):

    def test_all_classes_are_there_and_no_others(self):
        found = {name for name, thing in vars(errors).items() if inspect.isclass(thing)}
        self.assertEqual(found, {"StretchError", *PLAIN, *FIELDS})

    def test_each_derives_directly(self):
        self.assertEqual(errors.StretchError.__bases__, (ValueError,))
        for name in [*PLAIN, *FIELDS]:
            made = getattr(errors, name)
            self.assertEqual(made.__bases__, (errors.StretchError,), name)
            self.assertEqual(made.__name__, name)
            self.assertEqual(made.__module__, "stretchprices.errors")

    def test_none_is_another_one(self):
        made = [getattr(errors, name)() for name in PLAIN]
        made += [getattr(errors, name)(0) for name in FIELDS]
        for error in made:
            self.assertIsInstance(error, errors.StretchError)
            self.assertIsInstance(error, ValueError)
            for name in [*PLAIN, *FIELDS]:
                self.assertEqual(isinstance(error, getattr(errors, name)), type(error).__name__ == name)

    def test_fields_keep_what_was_passed(self):
        for name, field in FIELDS.items():
            for thing in odd_things() + [1.5, {1, 2}, deep("list")]:
                error = getattr(errors, name)(thing)
                self.assertIs(getattr(error, field), thing)
                self.assertEqual(list(vars(error)), [field])

    def test_fields_must_be_passed(self):
        for name in FIELDS:
            with self.assertRaises(TypeError):
                getattr(errors, name)()
            with self.assertRaises(TypeError):
                getattr(errors, name)(1, 2)

    def test_plain_ones_have_no_fields(self):
        for name in PLAIN:
            self.assertEqual(vars(getattr(errors, name)()), {})

    def test_errors_can_be_kept(self):
        for name, field in FIELDS.items():
            again = pickle.loads(pickle.dumps(getattr(errors, name)("rows")))
            self.assertEqual(getattr(again, field), "rows")


if __name__ == "__main__":
    unittest.main()

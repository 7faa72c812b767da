"""The interface as it is listed: names, where they are defined, and what they are handed."""

import importlib
import inspect
import unittest

FUNCTIONS = {
    "kinds": ["of_hex(text)", "hex_of(told)"],
    "words": ["words(lengths)", "least_lengths(weights, bound)"],
    "prices": ["told_prices()"],
    "rows": ["told(items, *, ahead=b'')", "bits_of(items, prices)"],
    "least": ["least(data, prices, *, ahead=b'')"],
    "blocks": ["ways(data, *, ahead=b'')", "block(data, *, ahead=b'')"],
    "streams": ["cut(data, step, *, ahead=b'')", "pressed(data, *, step=256, ahead=b'')", "opened(stream, *, ahead=b'')"],
    "differences": ["difference(old, new)", "shown(old, new, difference, costs)", "put_on(old, difference)",
                    "flat(difference)", "joined(first, second)"],
    "packs": ["packed(files)", "listed(pack)", "taken(pack, name)", "saved(told)"],
}
CLASSES = {
    "prices": {"Prices": ["__init__(self, letters, backs)", "letters(self)", "backs(self)", "__eq__(self, other)"]},
    "least": {"Least": ["__init__(self, row, costs)", "shows(self, data, prices, *, ahead=b'')"],
              "Never": ["__init__(self, costs)", "shows(self, data, prices, *, ahead=b'')"]},
    "streams": {"Reader": ["__init__(self, *, ahead=b'')", "hear(self, told)", "known(self)", "is_over(self)", "bits(self)"]},
}
ERRORS = """BadBytes BadHex BadLengths BadWeights BadBound BadPrices BadItems BadStep BadStream BadDifference BadFiles BadPack
BadName""".split()


class TestInterface(unittest.TestCase):
    def test_functions(self):
        for module, told in FUNCTIONS.items():
            found = importlib.import_module("presshouse." + module)
            for one in told:
                function = vars(found)[one.split("(")[0]]
                self.assertTrue(inspect.isfunction(function))
                self.assertEqual(function.__module__, found.__name__)
                self.assertEqual(function.__name__ + str(inspect.signature(function)), one)

    def test_classes_and_their_methods(self):
        for module, classes in CLASSES.items():
            found = importlib.import_module("presshouse." + module)
            for name, methods in classes.items():
                told = vars(found)[name]
                self.assertEqual(told.__module__, found.__name__)
                for one in methods:
                    method = vars(told)[one.split("(")[0]]
                    self.assertEqual(method.__name__ + str(inspect.signature(method)), one)

    def test_errors(self):
        errors = importlib.import_module("presshouse.errors")
        self.assertEqual(errors.PressError.__bases__, (ValueError,))
        for name in ERRORS:
            self.assertEqual(vars(errors)[name].__bases__, (errors.PressError,))
            self.assertEqual(vars(errors)[name].__module__, "presshouse.errors")


if __name__ == "__main__":
    unittest.main()

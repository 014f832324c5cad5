"""The names and arguments that the interface asks for."""

import importlib
import inspect
import unittest

FUNCTIONS = {
    "webs": {"is_web": ["thing"], "is_row": ["web", "thing"]},
    "writing": {"written": ["web"]},
}


class Interface(unittest.TestCase):
    def test_names_and_arguments(self):
        for file, functions in FUNCTIONS.items():
            module = importlib.import_module("pageties." + file)
            for name, arguments in functions.items():
                with self.subTest(file=file, name=name):
                    told = inspect.signature(getattr(module, name)).parameters
                    self.assertEqual(list(told), arguments)


if __name__ == "__main__":
    unittest.main()

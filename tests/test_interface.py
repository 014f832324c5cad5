"""The names and arguments that the interface asks for."""

import importlib
import inspect
import unittest

FUNCTIONS = {
    "webs": {"is_web": ["thing"], "is_row": ["web", "thing"]},
    "writing": {"written": ["web"]},
    "reading": {"read": ["text"]},
    "pairs": {
        "how": ["web", "row", "one", "other"],
        "clashes": ["web", "row", "kind"],
        "greatest": ["web", "row", "kind"],
        "are_clashing": ["web", "row", "kind", "thing"],
    },
    "pages": {
        "are_right": ["web", "row", "kind", "thing"],
        "page_count": ["pages"],
        "fewest_pages": ["web", "row", "kind"],
    },
    "papers": {
        "paper_against": ["web", "row", "kind", "many"],
        "is_paper": ["web", "row", "kind", "many", "thing"],
    },
    "orders": {"best_row": ["web", "kind"], "least_pages": ["web", "kind"]},
    "runs": {
        "run": ["web", "row", "kind", "some"],
        "is_run": ["web", "row", "kind", "some", "thing"],
    },
    "changing": {
        "moved": ["row", "by"],
        "turned": ["row"],
        "renamed": ["web", "names"],
        "with_tie": ["web", "one", "other"],
        "without_tie": ["web", "tie"],
        "full": ["many"],
        "round_web": ["many"],
        "halves": ["one", "other"],
    },
}


class Interface(unittest.TestCase):
    def test_names_and_arguments(self):
        for file, functions in FUNCTIONS.items():
            module = importlib.import_module("pageties." + file)
            for name, arguments in functions.items():
                with self.subTest(file=file, name=name):
                    told = inspect.signature(getattr(module, name)).parameters
                    self.assertEqual(list(told), arguments)


if __name__ == "__main__":
    unittest.main()

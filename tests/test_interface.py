import doctest
import importlib
import inspect
import unittest
from pathlib import Path

README = Path(__file__).resolve().parent.parent / "README.md"
FUNCTIONS = {
    "suffixhouse.texts.house": {
        "is_house": ["house"],
        "write_house": ["house"],
        "read_house": ["text"],
        "text_of": ["house", "number"],
        "with_text": ["house", "number", "text"],
        "without_text": ["house", "number"],
    },
    "suffixhouse.machines.machine": {
        "machine": ["house"],
        "states": ["house"],
        "state_of": ["edges", "word"],
        "takes": ["edges", "word", "mark"],
        "edge_count": ["edges"],
    },
}


class InterfaceTest(unittest.TestCase):
    def test_functions_have_their_place_and_arguments(self):
        for place, functions in FUNCTIONS.items():
            module = importlib.import_module(place)
            for name, arguments in functions.items():
                function = getattr(module, name)
                self.assertEqual(function.__module__, place, name)
                self.assertEqual(list(inspect.signature(function).parameters), arguments, name)

    def test_readme_tells_the_truth(self):
        result = doctest.testfile(str(README), module_relative=False)
        self.assertGreater(result.attempted, 0)
        self.assertEqual(result.failed, 0)


if __name__ == "__main__":
    unittest.main()

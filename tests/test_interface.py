import doctest
import importlib
import inspect
import unittest
from pathlib import Path

from suffixhouse.answers.words import absent_words, shortest_single
from suffixhouse.ends.order import check_order, commons_of, order_of
from suffixhouse.ends.ranges import least_common, order_with
from suffixhouse.houses.house import House
from suffixhouse.misprints.distance import check_distance
from suffixhouse.misprints.near import near_places
from suffixhouse.papers.answers import check_single

README = Path(__file__).resolve().parent.parent / "README.md"
FUNCTIONS = {
    "suffixhouse.texts.house": {
        "is_house": ["house"],
        "write_house": ["house"],
        "read_house": ["text"],
        "text_of": ["house", "number"],
        "with_text": ["house", "number", "text"],
        "without_text": ["house", "number"],
    },
    "suffixhouse.machines.machine": {
        "machine": ["house"],
        "states": ["house"],
        "state_of": ["edges", "word"],
        "takes": ["edges", "word", "mark"],
        "edge_count": ["edges"],
    },
    "suffixhouse.texts.scans": {
        "places": ["house", "word"],
        "ends_at": ["house", "word"],
        "count": ["house", "word"],
        "stretches": ["house"],
        "next_letters": ["house", "word"],
        "next_marks": ["house", "word"],
        "ends": ["house"],
    },
    "suffixhouse.ends.order": {
        "order_of": ["house"],
        "common": ["house", "one", "two"],
        "commons_of": ["house", "order"],
        "check_order": ["house", "order", "commons"],
    },
    "suffixhouse.ends.ranges": {
        "range_of": ["house", "order", "word"],
        "stretch_count": ["house", "order", "commons"],
        "least_common": ["commons", "i", "j"],
        "order_with": ["house", "order", "number", "text"],
        "order_without": ["house", "order", "number"],
    },
    "suffixhouse.machines.plain": {
        "classes": ["house"],
    },
    "suffixhouse.answers.longest": {
        "longest_repeated": ["house", "least"],
        "longest_shared": ["house", "least"],
    },
    "suffixhouse.answers.words": {
        "absent_words": ["house", "alphabet"],
        "shortest_single": ["house", "number", "index"],
        "stretch_counts": ["house"],
    },
    "suffixhouse.papers.machines": {
        "machine_paper": ["house"],
        "check_machine": ["house", "edges", "paper"],
        "telling_row": ["house", "paper", "i", "j"],
    },
    "suffixhouse.papers.answers": {
        "stretch_table": ["house", "size"],
        "check_repeated": ["house", "least", "found", "table"],
        "check_shared": ["house", "least", "found", "table"],
        "single_places": ["house", "number", "index"],
        "check_single": ["house", "number", "index", "found", "others"],
    },
    "suffixhouse.misprints.distance": {
        "distance": ["one", "two"],
        "distance_table": ["one", "two"],
        "alignment": ["one", "two"],
        "aligned": ["one", "steps"],
        "is_low": ["one", "two", "table"],
        "check_distance": ["one", "two", "number", "steps", "table"],
    },
    "suffixhouse.misprints.near": {
        "near_places": ["house", "word", "most"],
        "nearest": ["house", "word"],
    },
    "suffixhouse.houses.house": {
        "House": [],
    },
}
METHODS = {
    "put": ["number", "text"],
    "take": ["number"],
    "back": [],
    "texts": [],
    "machine": [],
    "order": [],
    "commons": [],
    "history": [],
    "places": ["word"],
    "count": ["word"],
    "copy": [],
}


class InterfaceTest(unittest.TestCase):
    def test_functions_have_their_place_and_arguments(self):
        for place, functions in FUNCTIONS.items():
            module = importlib.import_module(place)
            for name, arguments in functions.items():
                function = getattr(module, name)
                self.assertEqual(function.__module__, place, name)
                self.assertEqual(list(inspect.signature(function).parameters), arguments, name)

    def test_methods_are_defined_in_the_class_itself(self):
        own = vars(House)
        for name, arguments in METHODS.items():
            self.assertIn(name, own)
            self.assertEqual(list(inspect.signature(own[name]).parameters), ["self", *arguments], name)

    def test_arguments_by_name(self):
        house = [(1, "ab")]
        order = order_of(house=house)
        commons = commons_of(house=house, order=order)
        self.assertIs(check_order(house=house, order=order, commons=commons), True)
        self.assertEqual(least_common(commons=commons, i=0, j=2), 0)
        self.assertEqual(order_with(house=house, order=order, number=2, text=""), [(1, 2), (2, 0), *order[1:]])
        self.assertEqual(absent_words(house=house, alphabet="ab"), ["aa", "ba", "bb"])
        self.assertEqual(shortest_single(house=house, number=1, index=1), (1, 2))
        self.assertIs(check_single(house=house, number=1, index=1, found=(1, 2), others={}), True)
        self.assertIs(check_distance(one="a", two="", number=1, steps=[("out", "a")], table=[[1], [0]]), True)
        self.assertEqual(near_places(house=house, word="ab", most=0), [(1, 0, 2, 0)])

    def test_readme_tells_the_truth(self):
        result = doctest.testfile(str(README), module_relative=False)
        self.assertGreater(result.attempted, 0)
        self.assertEqual(result.failed, 0)


if __name__ == "__main__":
    unittest.main()

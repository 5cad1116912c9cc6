"""The interface: each name is there, in its module, and takes so many things by their places."""

import importlib
import inspect
import unittest

from skeinwood.errors import SkeinError

FUNCTIONS = {
    "signs": {"is_whole": 1, "is_plain": 1, "is_name": 1, "ends_in": 1},
    "heights": {"least_leaves": 1, "least_signs": 1, "most_height": 1, "leanest": 2},
    "ways": {"way_to": 3, "way_stands": 5},
    "reading": {"sign_at": 3, "stretch_of": 4, "whole_text": 2},
    "rows": {"rows_in": 2, "row_begin": 3, "row_at": 3, "row_text": 3},
    "joining": {"joined": 3, "built": 2, "repeated": 3},
    "cutting": {"cut_at": 3, "put_in": 4, "taken_out": 4, "kept_part": 4},
    "spelling": {"spells": 3, "begins_text": 3, "items_signs": 2},
    "papers": {"paper_of": 3, "paper_stands": 4},
    "likes": {"held_together": 3, "told_stands": 4},
    "finding": {"count_of": 3, "place_of": 4},
    "sweeping": {"reach_of": 2, "swept": 2, "shared": 3},
    "shelftexts": {"shelf_text": 1, "read_shelf": 1},
}
CLASSES = {
    ("shelves", "Shelf"): {"leaf": 1, "fork": 2, "many": 0, "piece": 1, "signs": 1, "ends": 1, "leaves": 1, "height": 1,
                           "first_leaf": 1, "last_leaf": 1},
    ("house", "House"): {"shelf": 0, "names": 0, "text": 1, "give": 2, "copy_of": 2, "join_to": 2, "put_into": 3,
                         "take_from": 3, "repeat": 2, "drop": 1, "back": 0, "again": 0},
    ("desk", "Desk"): {"say": 1},
}
ERRORS = {"NoText": 0, "NoPiece": 0, "Loose": 0, "Unlevel": 0, "TooLong": 0, "NoPlace": 0, "NoName": 0,
          "NothingDone": 0, "Torn": 1, "NoLine": 0}


def module(name):
    return importlib.import_module("skeinwood." + name)


class InterfaceTest(unittest.TestCase):
    def test_functions(self):
        for name, functions in FUNCTIONS.items():
            for function, many in functions.items():
                found = getattr(module(name), function)
                self.assertTrue(inspect.isfunction(found))
                self.assertEqual(found.__module__, "skeinwood." + name)
                inspect.signature(found).bind(*range(many))
                self.assertEqual(len(inspect.signature(found).parameters), many, function)

    def test_classes(self):
        for (name, kind), methods in CLASSES.items():
            made = getattr(module(name), kind)()
            for method, many in methods.items():
                self.assertEqual(len(inspect.signature(getattr(made, method)).parameters), many, method)

    def test_errors(self):
        for name, many in ERRORS.items():
            kind = getattr(module("errors"), name)
            self.assertEqual(kind.__bases__, (SkeinError,))
            self.assertIsInstance(kind(*range(many)), ValueError)
        self.assertEqual(SkeinError.__bases__, (ValueError,))
        self.assertEqual(module("errors").Torn(7).row, 7)


if __name__ == "__main__":
    unittest.main()

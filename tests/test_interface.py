"""The interface: each name is there, under its module, with its arguments."""

import importlib
import inspect
import unittest

FUNCTIONS = {
    "frames": {"is_frame": 1, "ticks_of": 1, "begin_of": 2, "place_of": 2},
    "shapes": {"is_shape": 1, "strip_of": 3},
    "stands": {"is_stand": 1, "is_deed": 2, "stand_behind": 2},
    "rows": {"kept_on": 3, "lost_on": 3, "taken": 3, "ink_at": 2},
    "laying": {"laid": 3, "slips": 3},
    "tables": {"windows": 2, "table_for": 4, "timed_table": 2},
    "slots": {"slots_for": 3, "cast_for": 5},
    "texts": {"picture_text": 1, "read_picture": 1, "plan_text": 3, "read_plan": 1},
    "whole": {"picture_of": 1},
    "scores": {"is_score": 2, "deeds_by": 4, "played": 4, "score_for": 3},
    "films": {"is_film": 1, "film_at": 2, "round_of": 1, "meeting": 3},
    "wished": {"wishes_of": 3, "lone_pot": 3},
    "packing": {"packed": 1, "unpacked": 1},
}
CLASSES = {
    ("beam", "Beam", 2): {
        "tick": 0, "stand": 0, "is_over": 0, "deed": 1, "go": 1, "picture": 0, "touches": 0, "grounds": 0, "lost": 0,
    },
    ("reel", "Reel", 1): {"go": 1, "deed": 1, "back": 0, "frames": 0, "film": 0, "picture": 0},
    ("desk", "Desk", 0): {"say": 1},
}


def count_of(thing):
    return len(inspect.signature(thing).parameters)


class Interface(unittest.TestCase):
    def test_functions(self):
        for module, names in FUNCTIONS.items():
            for name, many in names.items():
                told = getattr(importlib.import_module("glowrow." + module), name)
                self.assertTrue(inspect.isfunction(told), name)
                self.assertEqual(count_of(told), many, name)
                self.assertEqual(told.__module__, "glowrow." + module)

    def test_classes(self):
        for (module, name, many), methods in CLASSES.items():
            told = getattr(importlib.import_module("glowrow." + module), name)
            self.assertTrue(inspect.isclass(told), name)
            self.assertEqual(count_of(told), many, name)
            for method, parts in methods.items():
                self.assertEqual(count_of(getattr(told, method)), parts + 1, (name, method))


if __name__ == "__main__":
    unittest.main()

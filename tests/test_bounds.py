"""The interface: baylines/bounds.py."""

import unittest

from baylines import bounds

WANTED = {
    "MAX_KINDS": 8, "MAX_BAYS": 6, "MAX_ROW": 60, "MAX_ROWS": 4096, "MAX_STANDINGS": 4000,
    "MAX_DOUBLES": 4000, "MAX_TIMES": 1000000000000000000000000000000, "MAX_SHELF": 12,
    "MAX_WANTED": 6, "MAX_STEPS": 8, "MAX_TUPLES": 4000, "MAX_ALL": 4, "MAX_TOLD": 4,
    "MAX_NAMES": 40, "MAX_NESTED": 12, "MAX_EDITS": 60,
}


class Bounds(unittest.TestCase):

    def test_each_bound_has_its_value(self):
        told = {name: worth for name, worth in vars(bounds).items() if name.startswith("MAX_")}
        self.assertEqual(told, WANTED)

    def test_each_bound_is_an_integer(self):
        for name in WANTED:
            self.assertIs(type(getattr(bounds, name)), int, name)


if __name__ == "__main__":
    unittest.main()

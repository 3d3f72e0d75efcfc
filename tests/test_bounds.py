"""The bounds, by name and number."""

import unittest

from singlegates import bounds

TOLD = {
    "MAX_STATIONS": 10, "MAX_TRACKS": 4, "MAX_TRAINS": 40, "MAX_CHOICES": 3, "MAX_STEPS": 12, "MAX_PAIRS": 40,
    "MAX_MOVES": 600, "MAX_SEEN": 2000, "MAX_EDITS": 40, "MAX_MINUTES": 60, "MAX_ENTRY": 600,
}


class Bounds(unittest.TestCase):
    def test_all_eleven(self):
        found = {name: value for name, value in vars(bounds).items() if not name.startswith("_")}
        self.assertEqual(found, TOLD)
        self.assertEqual({type(value) for value in found.values()}, {int})


if __name__ == "__main__":
    unittest.main()

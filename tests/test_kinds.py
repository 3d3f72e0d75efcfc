"""The questions that all modules ask of values."""

import unittest

from support import any_values

from singlegates.kinds import are_within, is_ascending, is_integer, is_pair, is_row, is_within, number_of


class Kinds(unittest.TestCase):
    def test_is_integer(self):
        self.assertEqual([is_integer(value) for value in (0, 1, -1, 10 ** 399, -10 ** 399)], [True] * 5)
        self.assertEqual([is_integer(value) for value in (True, False, None, "1", (1,), [1], {1: 1}, ())], [False] * 8)

    def test_is_within(self):
        self.assertEqual([is_within(value, 2, 4) for value in range(6)], [False, False, True, True, True, False])
        self.assertEqual([is_within(value, 0, 1) for value in (True, False, None, "1", (1,), [1])], [False] * 6)
        self.assertFalse(is_within(0, 1, 0))

    def test_is_pair(self):
        self.assertEqual([is_pair(value) for value in ((), (1,), (1, 2), (1, 2, 3), [1, 2], "12")], [False, False, True, False, False, False])

    def test_is_row(self):
        for many in range(5):
            self.assertEqual([is_row((None,) * size, many) for size in range(5)], [size == many for size in range(5)])
            self.assertEqual([is_row(value, many) for value in ([0] * many, "0" * many, {k: k for k in range(many)}, many)], [False] * 4)

    def test_are_within(self):
        for value in ((1, 3, 2), (1, 1, 1), (3, 3, 3)):
            self.assertTrue(are_within(value, 3, 1, 3))
            self.assertFalse(are_within(value, 2, 1, 3))
            self.assertFalse(are_within(value, 4, 1, 3))
            self.assertFalse(are_within(list(value), 3, 1, 3))
        for value in ((0, 3, 2), (1, 4, 2), (1, 2, True), (1, "2", 3), (1, 2, None), ((1,), 2, 3), "123", None, 3):
            self.assertFalse(are_within(value, 3, 1, 3))
        self.assertTrue(are_within((), 0, 1, 0))

    def test_is_ascending(self):
        for value in ((), (0,), (9,), (0, 1), (0, 9), (3, 4, 8), tuple(range(10))):
            self.assertTrue(is_ascending(value, 9), value)
        for value in ((1, 0), (0, 0), (0, 1, 1), (0, 2, 1), (10,), (0, 10), (-1,), (-1, 0), (True,), (0, True), (None,), ("0",), [0, 1], [], {}, "", "01", None, 0):
            self.assertFalse(is_ascending(value, 9), value)
        self.assertTrue(is_ascending((), -1))
        self.assertFalse(is_ascending((0,), -1))
        for value in any_values():
            self.assertEqual(is_ascending(value, 9), isinstance(value, tuple) and value in ((), (0,)))

    def test_number_of(self):
        for most in (0, 4, 9, 39, 40, 600):
            for number in range(1100):
                self.assertEqual(number_of(str(number), most), number if number <= most else None)
        for wrong in ("", "01", "00", "-1", "+1", " 1", "1 ", "1\n", "1_0", "1.", "x", "0x1", "\u0661", "\u00b2", "9" * 20000):
            self.assertIsNone(number_of(wrong, 600))
        for value in any_values():
            if isinstance(value, str):
                self.assertIsNone(number_of(value, 600))


if __name__ == "__main__":
    unittest.main()

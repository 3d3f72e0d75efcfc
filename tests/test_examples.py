"""The examples of the document, as they stand there, one behind another with the names that they set."""

import doctest
import pathlib
import unittest

from support import examples, outcome


class Examples(unittest.TestCase):
    def test_examples(self):
        text = (pathlib.Path(__file__).parent / "examples.txt").read_text(encoding="ascii")
        names = {}
        for number, code, told in examples(text):
            with self.subTest(line=number, code=code):
                if told is None:
                    exec(code, names)
                else:
                    self.assertEqual(outcome(code, names), told)

    def test_readme(self):
        readme = pathlib.Path(__file__).parent.parent / "README.md"
        failed, tried = doctest.testfile(str(readme), module_relative=False)
        self.assertEqual(failed, 0)
        self.assertGreater(tried, 0)

    def test_reader_tells_wrong_outcomes(self):
        found = examples("# [X]\n>>> a = 1\n>>> a + 1\n2\n>>> int('x')\nraises ValueError()\n")
        self.assertEqual(found, [[2, "a = 1", None], [3, "a + 1", "2"], [5, "int('x')", "raises ValueError()"]])
        self.assertEqual([outcome(code, {"a": 1}) for _, code, told in found if told], ["2", "raises ValueError()"])
        self.assertNotEqual(outcome("1 == 1", {}), "1")


if __name__ == "__main__":
    unittest.main()

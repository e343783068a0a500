"""The examples of README.md are answered as it says."""

import doctest
import pathlib
import unittest


class Readme(unittest.TestCase):
    def test_its_examples(self):
        path = pathlib.Path(__file__).resolve().parent.parent / "README.md"
        failed, tried = doctest.testfile(str(path), module_relative=False)
        self.assertEqual((failed, tried >= 5), (0, True))


if __name__ == "__main__":
    unittest.main()

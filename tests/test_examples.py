"""The examples of the interface give what is printed there, and so do those of README.md."""

import doctest
import os
import unittest

HERE = os.path.dirname(os.path.abspath(__file__))


class ExamplesTest(unittest.TestCase):
    def assert_as_printed(self, path, least):
        told = doctest.testfile(path, module_relative=False)
        self.assertGreaterEqual(told.attempted, least)
        self.assertEqual(told.failed, 0)

    def test_interface(self):
        self.assert_as_printed(os.path.join(HERE, "examples.txt"), 80)

    def test_readme(self):
        self.assert_as_printed(os.path.join(HERE, "..", "README.md"), 73)


if __name__ == "__main__":
    unittest.main()

"""The examples of README.md tell what the program tells."""

import doctest
import os
import unittest

README = os.path.join(os.path.dirname(os.path.dirname(os.path.abspath(__file__))), "README.md")


class Readme(unittest.TestCase):
    def test_examples(self):
        told = doctest.testfile(README, module_relative=False)
        self.assertGreater(told.attempted, 5)
        self.assertEqual(told.failed, 0)


if __name__ == "__main__":
    unittest.main()

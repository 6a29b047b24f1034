"""Tests that the examples of README.md give what stands there."""

import doctest
import pathlib
import unittest

README = pathlib.Path(__file__).resolve().parent.parent / "README.md"


class ReadmeTest(unittest.TestCase):
    def test_examples(self):
        told = doctest.testfile(str(README), module_relative=False, encoding="utf-8")
        self.assertGreater(told.attempted, 8)
        self.assertEqual(told.failed, 0)

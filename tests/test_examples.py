"""The examples of the document, stage by stage, as it prints them."""

import doctest
import pathlib
import unittest

FOLDER = pathlib.Path(__file__).parent / "examples"


class Examples(unittest.TestCase):
    def test_all_stages(self):
        paths = sorted(FOLDER.glob("stage_*.txt"))
        self.assertTrue(paths)
        for path in paths:
            with self.subTest(path.name):
                failed, attempted = doctest.testfile(str(path), module_relative=False)
                self.assertEqual(failed, 0)
                self.assertGreater(attempted, 0)

"""The examples of the document, stage by stage, as it prints them, and those of README.md."""

import contextlib
import doctest
import io
import pathlib
import re
import unittest

FOLDER = pathlib.Path(__file__).parent / "examples"
README = pathlib.Path(__file__).parent.parent / "README.md"


class Examples(unittest.TestCase):
    def test_all_stages(self):
        paths = sorted(FOLDER.glob("stage_*.txt"))
        self.assertEqual(len(paths), 13)
        for path in paths:
            with self.subTest(path.name):
                failed, attempted = doctest.testfile(str(path), module_relative=False)
                self.assertEqual(failed, 0)
                self.assertGreater(attempted, 0)

    def test_readme_runs(self):
        names = {}
        blocks = re.findall(r"```python\n(.*?)```", README.read_text(), flags=re.DOTALL)
        self.assertGreater(len(blocks), 5)
        with contextlib.redirect_stdout(io.StringIO()):
            for block in blocks:
                exec(block, names)
        self.assertEqual(names["desk"].execute("ahead"), ["r0c0 meadow"])

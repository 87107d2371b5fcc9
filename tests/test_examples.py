"""The examples of the document, as they stand there."""

import doctest
import os
import unittest

FOLDER = os.path.join(os.path.dirname(os.path.abspath(__file__)), "examples")
# What a part of a block takes from lines that are not in it.
GIVEN = {
    "stage_1_first.txt": {
        "program": (1, (("input", 0), ("told", (-1, 2)), ("round", 0), ("times", 1, 2))),
    },
}


class Examples(unittest.TestCase):
    def test_all_blocks(self):
        names = sorted(os.listdir(FOLDER))
        self.assertTrue(names)
        for name in names:
            with self.subTest(name):
                with open(os.path.join(FOLDER, name), encoding="utf-8") as file:
                    text = file.read()
                told = dict(GIVEN.get(name, {}))
                parsed = doctest.DocTestParser().get_doctest(text, told, name, name, 0)
                lines = []
                result = doctest.DocTestRunner(verbose=False).run(parsed, out=lines.append)
                self.assertGreater(result.attempted, 0)
                self.assertEqual(result.failed, 0, "".join(lines))

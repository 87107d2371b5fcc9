"""The examples of the document, as they stand there, and those of README.md."""

import doctest
import os
import unittest

TESTS = os.path.dirname(os.path.abspath(__file__))
FOLDER = os.path.join(TESTS, "examples")
README = os.path.join(os.path.dirname(TESTS), "README.md")


class Examples(unittest.TestCase):
    def check(self, path):
        with open(path, encoding="utf-8") as file:
            text = file.read().replace("```", "")
        parsed = doctest.DocTestParser().get_doctest(text, {}, path, path, 0)
        lines = []
        result = doctest.DocTestRunner(verbose=False).run(parsed, out=lines.append)
        self.assertGreater(result.attempted, 0)
        self.assertEqual(result.failed, 0, "".join(lines))

    def test_all_blocks(self):
        names = sorted(os.listdir(FOLDER))
        self.assertTrue(names)
        for name in names:
            with self.subTest(name):
                self.check(os.path.join(FOLDER, name))

    def test_readme(self):
        self.check(README)

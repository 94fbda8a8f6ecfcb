"""The examples of the document and of the README, as they stand there."""

import doctest
import pathlib
import unittest

from postedbag.base import bags, programs, words

HERE = pathlib.Path(__file__).parent


def failures_of(text, name, names):
    """How many examples of a text there are, and what was told about those that failed."""
    told = []
    test = doctest.DocTestParser().get_doctest(text, names, name, name, 0)
    runner = doctest.DocTestRunner(verbose=False)
    runner.run(test, out=told.append)
    return runner.tries, "".join(told)


class ExamplesTest(unittest.TestCase):
    def check(self, *parts):
        text = "".join([(HERE / "examples" / f"{part}.txt").read_text() for part in parts])
        tries, told = failures_of(text, parts[-1], {**vars(words), **vars(bags), **vars(programs)})
        self.assertEqual(tries, text.count(">>> "))
        self.assertEqual(told, "")

    def test_wide_bags(self):
        self.check("bags")

    def test_programs(self):
        self.check("programs", "procedures")

    def test_readme(self):
        text = (HERE.parent / "README.md").read_text()
        tries, told = failures_of(text.replace("```", "\n"), "README", {})
        self.assertGreater(tries, 0)
        self.assertEqual(told, "")


if __name__ == "__main__":
    unittest.main()

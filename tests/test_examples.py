"""The examples of the document and of the README, as they stand there."""

import doctest
import pathlib
import unittest

from postedbag.ask import covers, needs, piles, places, rows
from postedbag.base import bags, programs, words
from postedbag.compare import posts
from postedbag.compare import programs as compared
from postedbag.house import project
from postedbag.know import gains, uses, ways
from postedbag.plan import plans, tops
from postedbag.run import runs
from postedbag.text import shell, texts

HERE = pathlib.Path(__file__).parent
MODULES = (
    words, bags, programs, texts, runs, ways, uses, gains, plans, tops, covers, needs, places, piles, rows, compared,
    posts, project, shell,
)
# The document's examples as they stand one behind the other.
PARTS = (
    "programs", "bags", "procedures", "texts", "runs", "ways", "uses", "gains", "plans", "tops", "covers", "needs",
    "places", "piles", "rows", "compared", "cuts", "project", "shell",
)


def failures_of(text, name, names):
    """How many examples of a text there are, and what was told about those that failed."""
    told = []
    test = doctest.DocTestParser().get_doctest(text, names, name, name, 0)
    runner = doctest.DocTestRunner(verbose=False)
    runner.run(test, out=told.append)
    return runner.tries, "".join(told)


def names_of_all():
    """All that the modules have, by its names."""
    return {name: value for module in MODULES for name, value in vars(module).items()}


class ExamplesTest(unittest.TestCase):
    def check(self, *parts):
        text = "".join([(HERE / "examples" / f"{part}.txt").read_text() for part in parts])
        tries, told = failures_of(text, parts[-1], names_of_all())
        self.assertEqual(tries, text.count(">>> "))
        self.assertEqual(told, "")

    def test_wide_bags(self):
        self.check("bags")

    def test_programs(self):
        self.check("programs", "procedures")

    def test_texts(self):
        self.check("programs", "texts")

    def test_runs(self):
        self.check("programs", "runs")

    def test_ways(self):
        self.check("programs", "ways")

    def test_uses(self):
        self.check("programs", "uses")

    def test_gains(self):
        self.check("programs", "uses", "gains")

    def test_plans(self):
        self.check("programs", "runs", "uses", "plans")

    def test_tops(self):
        self.check("programs", "tops")

    def test_covers(self):
        self.check("programs", "uses", "covers")

    def test_needs(self):
        self.check("programs", "needs")

    def test_places(self):
        self.check("programs", "places")

    def test_piles(self):
        self.check("programs", "piles")

    def test_rows(self):
        self.check("programs", "rows")

    def test_programs_compared(self):
        self.check("programs", "uses", "compared")

    def test_posts_left_out(self):
        self.check("programs", "cuts")

    def test_projects(self):
        self.check("programs", "project")

    def test_shells(self):
        self.check("programs", "shell")

    def test_all_examples_one_behind_the_other(self):
        self.check(*PARTS)

    def test_these_are_the_documents_examples(self):
        document = HERE.parent.parent / "shared" / "DOC.md"
        if not document.exists():
            self.skipTest("there is no document beside the project")
        blocks = document.read_text().split("```\n")[1::2]
        told = "".join(block for block in blocks if block.startswith(">>> "))
        for part in PARTS:
            for line in (HERE / "examples" / f"{part}.txt").read_text().splitlines():
                self.assertIn(line, told.splitlines())
        self.assertEqual(sum((HERE / "examples" / f"{part}.txt").read_text().count(">>> ") for part in PARTS), told.count(">>> "))

    def test_readme(self):
        text = (HERE.parent / "README.md").read_text()
        tries, told = failures_of(text.replace("```", "\n"), "README", {})
        self.assertGreater(tries, 0)
        self.assertEqual(told, "")


if __name__ == "__main__":
    unittest.main()

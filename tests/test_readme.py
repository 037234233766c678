"""The examples of the README, and the modules that it names."""

import doctest
import pathlib
import unittest

ROOT = pathlib.Path(__file__).resolve().parent.parent
TEXT = (ROOT / "README.md").read_text(encoding="utf-8")


class ReadmeTest(unittest.TestCase):

    def test_examples(self):
        # The line that ends a block of code would count as a part of the last answer.
        test = doctest.DocTestParser().get_doctest(TEXT.replace("```", ""), {}, "README", "README.md", 0)
        failed, tried = doctest.DocTestRunner().run(test)
        self.assertEqual(failed, 0)
        self.assertGreater(tried, 30)

    def test_every_module_is_named(self):
        for path in (ROOT / "templates").glob("*.py"):
            if path.stem != "__init__":
                self.assertIn(f"`templates.{path.stem}`", TEXT)


if __name__ == "__main__":
    unittest.main()

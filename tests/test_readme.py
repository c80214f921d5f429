"""The examples of README.md."""

import doctest
import unittest
from pathlib import Path

README = Path(__file__).resolve().parent.parent / "README.md"


class ReadmeTest(unittest.TestCase):
    def test_examples(self):
        # A fence would be read as a line of what an example returns.
        text = README.read_text(encoding="ascii").replace("```", "")
        test = doctest.DocTestParser().get_doctest(text, {}, "README.md", str(README), 0)
        self.assertGreater(len(test.examples), 0)
        told = []
        doctest.DocTestRunner(verbose=False).run(test, out=told.append)
        self.assertEqual("".join(told), "")

    def test_every_module_is_named(self):
        text = README.read_text(encoding="ascii")
        for path in (README.parent / "rungbounds").glob("[a-z]*.py"):
            self.assertIn(f"`rungbounds.{path.stem}`", text)


if __name__ == "__main__":
    unittest.main()

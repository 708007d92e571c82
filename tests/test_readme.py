import doctest
import unittest
from pathlib import Path

README = Path(__file__).parent.parent / "README.md"


class ReadmeTest(unittest.TestCase):
    def test_examples(self):
        # A fence right behind a result would be taken for a part of it.
        text = README.read_text("utf-8").replace("```", "")
        found = doctest.DocTestRunner().run(doctest.DocTestParser().get_doctest(text, {}, "README.md", None, 0))
        self.assertGreater(found.attempted, 4)
        self.assertEqual(found.failed, 0)

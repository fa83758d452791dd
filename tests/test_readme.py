"""What README.md shows is what Python answers."""

import doctest
import unittest
from pathlib import Path

README = Path(__file__).resolve().parent.parent / "README.md"


class ReadmeTest(unittest.TestCase):
    def test_its_examples(self):
        # A fence behind an answer would be taken for a part of it.
        text = README.read_text(encoding="utf-8").replace("```", "")
        examples = doctest.DocTestParser().get_doctest(text, {}, README.name, str(README), 0)
        results = doctest.DocTestRunner().run(examples)
        self.assertGreater(results.attempted, 0)
        self.assertEqual(results.failed, 0)


if __name__ == "__main__":
    unittest.main()

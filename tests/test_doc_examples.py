"""The examples of the document, to the letter: doc_examples.txt has them as they stand there."""

import unittest
from pathlib import Path

EXAMPLES = Path(__file__).resolve().parent / "doc_examples.txt"


def shown(expression, names):
    """What the document shows for an expression."""
    try:
        return repr(eval(expression, names))
    except Exception as error:
        told = ", ".join(f"{name}={value!r}" for name, value in vars(error).items())
        return f"raises {error.__class__.__name__}({told})"


class DocExamplesTest(unittest.TestCase):
    def test_each_answer(self):
        names, answered = {}, 0
        lines = EXAMPLES.read_text(encoding="utf-8").splitlines()
        for line, after in zip(lines, [*lines[1:], ">>> "]):
            code = line.removeprefix(">>> ")
            if after.startswith(">>> ") and line.startswith(">>> "):
                exec(code, names)
            elif line.startswith(">>> "):
                with self.subTest(code=code):
                    self.assertEqual(shown(code, names), after)
                answered += 1
        self.assertEqual(answered, sum(not line.startswith(">>> ") for line in lines))


if __name__ == "__main__":
    unittest.main()

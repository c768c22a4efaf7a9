"""The examples of README.md: what stands behind a call is what it returns."""

import ast
import os
import re
import unittest

README = os.path.join(os.path.dirname(os.path.dirname(os.path.abspath(__file__))), "README.md")


def told_value(comment):
    """The value that a comment begins with, in a list, or an empty list."""
    for end in range(len(comment), 0, -1):
        try:
            return [ast.literal_eval(comment[:end])]
        except (SyntaxError, ValueError):
            continue
    return []


class ReadmeTest(unittest.TestCase):
    def test_the_examples(self):
        with open(README, encoding="utf-8") as file:
            blocks = re.findall("```python\n(.*?)```", file.read(), re.DOTALL)
        names, compared = {}, 0
        for line in "\n".join(blocks).split("\n"):
            code, _, comment = line.partition("  # ") if "  # " in line else (line, "", "")
            told = told_value(comment.strip())
            if told:
                self.assertEqual(eval(code, names), told[0], line)
                compared += 1
            else:
                exec(code, names)
        self.assertGreater(compared, 25)


if __name__ == "__main__":
    unittest.main()

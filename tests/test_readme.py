"""The examples of README.md tell what they say."""

import os
import re
import unittest

README = os.path.join(os.path.dirname(os.path.abspath(__file__)), "..", "README.md")


class ReadmeTest(unittest.TestCase):
    def test_examples(self):
        with open(README, encoding="utf-8") as file:
            block = re.search(r"```python\n(.*?)```", file.read(), re.DOTALL).group(1)
        names = {}
        shown = 0
        for line in block.splitlines():
            code, sign, told = line.partition("  # ")
            if sign:
                self.assertEqual(repr(eval(code, names)), told.strip(), line)
                shown += 1
            else:
                exec(code, names)
        self.assertGreater(shown, 0)


if __name__ == "__main__":
    unittest.main()

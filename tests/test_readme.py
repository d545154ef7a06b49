"""The examples of README.md give what it says."""

import doctest
import os
import re
import unittest

README = os.path.join(os.path.dirname(os.path.dirname(os.path.abspath(__file__))), "README.md")


class Readme(unittest.TestCase):
    def test_examples(self):
        with open(README, encoding="utf-8") as file:
            blocks = [block for block in re.findall(r"```\n(.*?)```", file.read(), re.DOTALL) if ">>>" in block]
        self.assertGreater(len(blocks), 0)
        for block in blocks:
            told = doctest.DocTestParser().get_doctest(block, {}, "README.md", "README.md", 0)
            self.assertEqual(doctest.DocTestRunner().run(told).failed, 0)


if __name__ == "__main__":
    unittest.main()

"""The examples of README.md hold."""

import doctest
import pathlib
import re
import unittest

README = pathlib.Path(__file__).resolve().parent.parent / "README.md"


class ReadmeTest(unittest.TestCase):
    def test_examples(self):
        blocks = re.findall(r"```\n(>>>.*?)```", README.read_text(encoding="utf-8"), re.DOTALL)
        self.assertTrue(blocks)
        for block in blocks:
            example = doctest.DocTestParser().get_doctest(block, {}, "README.md", "README.md", 0)
            runner = doctest.DocTestRunner()
            runner.run(example)
            self.assertEqual(runner.summarize().failed, 0)


if __name__ == "__main__":
    unittest.main()

"""The examples of README.md."""

import doctest
import pathlib
import unittest

README = pathlib.Path(__file__).resolve().parent.parent / "README.md"


class ReadmeTest(unittest.TestCase):
    def test_the_examples(self):
        blocks = README.read_text(encoding="ascii").split("```")[1::2]
        examples = [block for block in blocks if ">>>" in block]
        self.assertGreater(len(examples), 0)
        names, runner = {}, doctest.DocTestRunner(verbose=False)
        for block in examples:
            test = doctest.DocTestParser().get_doctest(block, names, "README.md", None, None)
            runner.run(test, clear_globs=False)
            names = test.globs
        self.assertEqual(runner.failures, 0)


if __name__ == "__main__":
    unittest.main()

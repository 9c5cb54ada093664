"""The examples of README.md."""

import doctest
import pathlib
import unittest

README = pathlib.Path(__file__).resolve().parent.parent / "README.md"


class ReadmeTest(unittest.TestCase):
    def test_the_examples(self):
        # The fences of the examples end them, but doctest knows blank lines only.
        text = README.read_text().replace("```", "")
        examples = doctest.DocTestParser().get_doctest(text, {}, "README.md", str(README), 0)
        told = []
        doctest.DocTestRunner().run(examples, out=told.append)
        self.assertGreater(len(examples.examples), 5)
        self.assertEqual("".join(told), "")


if __name__ == "__main__":
    unittest.main()

"""The examples of README.md are true."""

import doctest
import pathlib
import unittest

README = pathlib.Path(__file__).resolve().parent.parent / "README.md"


class Examples(unittest.TestCase):
    def test_the_examples_of_the_readme(self):
        # A closing fence is no part of what an example prints.
        text = README.read_text(encoding="ascii").replace("```", "")
        examples = doctest.DocTestParser().get_doctest(text, {}, "README.md", None, 0)
        self.assertGreater(len(examples.examples), 0)
        told = []
        doctest.DocTestRunner().run(examples, out=told.append)
        self.assertEqual("".join(told), "")


if __name__ == "__main__":
    unittest.main()

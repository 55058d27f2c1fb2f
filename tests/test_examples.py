"""The examples of the document, just as they are printed there."""

import doctest
import os
import re
import unittest

HERE = os.path.dirname(os.path.abspath(__file__))
FOLDER = os.path.join(HERE, "examples")
README = os.path.join(HERE, "..", "README.md")
DOCUMENT = os.path.join(HERE, "..", "..", "shared", "DOC.md")


def texts():
    """Return the dict from the names of the examples to their texts."""
    found = {}
    for name in sorted(os.listdir(FOLDER)):
        with open(os.path.join(FOLDER, name), encoding="utf-8") as file:
            found[name] = file.read()
    return found


class TestExamples(unittest.TestCase):
    def test_examples(self):
        self.assertTrue(texts())
        for name, text in texts().items():
            with self.subTest(name=name):
                test = doctest.DocTestParser().get_doctest(text, {}, name, name, 0)
                self.assertTrue(test.examples)
                told = []
                result = doctest.DocTestRunner(verbose=False).run(test, out=told.append)
                self.assertEqual(result.failed, 0, "".join(told))

    def test_readme(self):
        with open(README, encoding="utf-8") as file:
            blocks = re.findall(r"```\n(>>>.*?)```", file.read(), re.S)
        self.assertTrue(blocks)
        # A later block goes on with what the earlier ones have defined.
        test = doctest.DocTestParser().get_doctest("\n".join(blocks), {}, "README.md", "README.md", 0)
        self.assertEqual(doctest.DocTestRunner(verbose=False).run(test).failed, 0)

    @unittest.skipUnless(os.path.exists(DOCUMENT), "the document does not stand beside the project")
    def test_they_are_those_of_the_document(self):
        with open(DOCUMENT, encoding="utf-8") as file:
            blocks = re.findall(r"```\n(.*?)```", file.read(), re.S)
        self.assertEqual(sorted(texts().values()), sorted(blocks))


if __name__ == "__main__":
    unittest.main()

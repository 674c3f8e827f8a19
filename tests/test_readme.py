import doctest
import pathlib
import unittest

README = pathlib.Path(__file__).resolve().parent.parent / "README.md"


class ReadmeTest(unittest.TestCase):
    def test_examples(self):
        text = README.read_text(encoding="utf-8").replace("```", "")
        examples = doctest.DocTestParser().get_doctest(text, {}, "README.md", None, 0)
        self.assertGreater(len(examples.examples), 5)
        result = doctest.DocTestRunner(verbose=False).run(examples)
        self.assertEqual(result.failed, 0)


if __name__ == "__main__":
    unittest.main()

import doctest
import pathlib
import unittest

README = pathlib.Path(__file__).resolve().parent.parent / "README.md"


class ReadmeTest(unittest.TestCase):
    def test_the_examples(self):
        # The fences would be read as output.
        text = README.read_text("utf-8").replace("```", "")
        examples = doctest.DocTestParser().get_doctest(text, {}, "README.md", None, 0)
        runner = doctest.DocTestRunner(verbose=False)
        runner.run(examples)
        self.assertEqual((runner.summarize(verbose=False).failed, runner.tries > 5), (0, True))


if __name__ == "__main__":
    unittest.main()

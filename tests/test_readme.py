"""The examples in README.md."""

import doctest
import os
import unittest

PATH = os.path.join(os.path.dirname(os.path.dirname(os.path.abspath(__file__))), "README.md")


class Examples(unittest.TestCase):
    def test_they_hold(self):
        with open(PATH, encoding="utf-8") as file:
            text = "".join(line for line in file if not line.startswith("```"))
        test = doctest.DocTestParser().get_doctest(text, {}, "README.md", PATH, 0)
        self.assertGreater(len(test.examples), 30)
        runner = doctest.DocTestRunner(verbose=False)
        out = []
        runner.run(test, out=out.append)
        self.assertEqual(runner.failures, 0, "".join(out))


if __name__ == "__main__":
    unittest.main()

"""The examples in README.md tell what is written below them."""

import doctest
import os
import unittest

README = os.path.join(os.path.dirname(os.path.dirname(os.path.abspath(__file__))), "README.md")


class TestReadme(unittest.TestCase):

    def test_examples(self):
        with open(README, encoding="utf-8") as file:
            # A fence would else be read as a line that is told.
            text = file.read().replace("```", "")
        test = doctest.DocTestParser().get_doctest(text, {}, "README", README, 0)
        told = doctest.DocTestRunner(verbose=False).run(test)
        self.assertEqual(told.failed, 0)
        self.assertGreater(told.attempted, 40)

    def test_each_module_is_named(self):
        with open(README, encoding="utf-8") as file:
            text = file.read()
        folder = os.path.join(os.path.dirname(README), "risingread")
        for name in os.listdir(folder):
            if name.endswith(".py") and not name.startswith("__"):
                self.assertIn("`risingread." + name[:-3] + "`", text)


if __name__ == "__main__":
    unittest.main()

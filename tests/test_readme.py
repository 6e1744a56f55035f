"""README.md: what it shows is what the program tells."""

import doctest
import pathlib
import unittest

from test_interface import INTERFACE

README = pathlib.Path(__file__).resolve().parent.parent / "README.md"


class Readme(unittest.TestCase):

    def test_what_it_shows_is_told(self):
        failed, tried = doctest.testfile(str(README), module_relative=False, encoding="utf-8")
        self.assertEqual(failed, 0)
        self.assertGreater(tried, 20)

    def test_it_names_each_function_and_how_to_run_the_tests(self):
        text = README.read_text(encoding="utf-8")
        for file, functions in INTERFACE.items():
            self.assertIn("ontheline." + file, text)
            for name in functions:
                self.assertIn("`" + name + "(", text)
        for told in ("ontheline.errors", "ontheline.desk", "Desk(names)", "say(row)"):
            self.assertIn(told, text)
        self.assertIn("bash .ci/run", text)


if __name__ == "__main__":
    unittest.main()

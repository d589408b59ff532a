import doctest
import pathlib
import unittest

README = pathlib.Path(__file__).parent.parent / "README.md"


class Readme(unittest.TestCase):
    def test_its_examples(self):
        outcome = doctest.testfile(str(README), module_relative=False)
        self.assertGreater(outcome.attempted, 0)
        self.assertEqual(outcome.failed, 0)


if __name__ == "__main__":
    unittest.main()

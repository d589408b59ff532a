import unittest

from closedroads.errors import InvalidText, WrongValue
from closedroads.webs import Web
from tests.samples import CROSS_TEXT, TWINS_TEXT, cross, odd_values, twins


class Told(unittest.TestCase):
    def refuse(self, text):
        with self.subTest(text=repr(text) if isinstance(text, str) else text.__class__):
            with self.assertRaises(InvalidText) as caught:
                Web.told(text)
            self.assertIs(caught.exception.given, text)

    def test_texts_of_webs(self):
        for text in (CROSS_TEXT, TWINS_TEXT, "a b\na b 0 0", "z a\na z 1000000 1000000",
                     "b a\na b 10 100", "a c\na b 1 2\nb c 3 4", "a b" + "\na b 7 7" * 8):
            web = Web.told(text)
            self.assertIs(type(web), Web)
            self.assertEqual(str(web), text)
            self.assertTrue(Web.told(text=text) == web)
        self.assertTrue(Web.told(CROSS_TEXT) == cross())

    def test_no_strings(self):
        for value in odd_values() + [twins(), TWINS_TEXT.encode(), (TWINS_TEXT,), [TWINS_TEXT], ()]:
            self.refuse(value)

    def test_by_name(self):
        with self.assertRaises(InvalidText) as caught:
            Web.told(text="a b")
        self.assertEqual(caught.exception.given, "a b")

    def test_other_spaces(self):
        for text in (
            " a b\na b 0 1", "a b \na b 0 1", "a  b\na b 0 1", "ab\na b 0 1", "a b\n a b 0 1",
            "a b\na b 0 1 ", "a b\na  b 0 1", "a b\na b  0 1", "a b\na b 0  1", "a b\nab 0 1",
            "a b\na b 01", "a\tb\na b 0 1", "a b\na b 0\t1", "a b a b 0 1", "a b\na b 0 1 a b 2 1",
        ):
            self.refuse(text)

    def test_other_ways_to_write_numbers(self):
        for word in ("00", "01", "+1", "-0", "-1", "1_0", "0x1", "1.0", "1e3", "", "o", "True",
                     "None", "1000001", "10000000", "0" * 4000, "9" * 3000, "9" * 5000, "1" + "0" * 99):
            self.refuse(f"a b\na b {word} 1")
            self.refuse(f"a b\na b 1 {word}")

    def test_missing_and_additional_lines(self):
        for text in (
            "", "\n", " ", "a", "a b", "a b\n", "a b 0 1", "a b\n\n", "a b\n\na b 0 1",
            "\na b\na b 0 1", "a b\na b 0 1\n", "a b\na b 0 1\n\na b 2 1", "a b\na b 0 1\na b",
            "a b\na b 0 1\nend", "a b\na b", "a b\na b 0", "a b\na b 0 1 2", "a b c\na b 0 1",
            "a\nb\na b 0 1", "a b\n0 1 a b", "a b\na b 0 1\r\na b 2 1", "a b\na b 0 1\n" * 2,
        ):
            self.refuse(text)

    def test_wrong_places(self):
        for text in (
            "A b\na b 0 1", "a B\na b 0 1", "a a\na b 0 1", "aa b\na b 0 1", "0 1\na b 0 1",
            "a b\nb a 0 1", "a b\na a 0 1", "a b\nA b 0 1", "a b\na bb 0 1", "a b\n0 1 0 1",
            "a b\na ` 0 1", "{ b\na b 0 1",
        ):
            self.refuse(text)

    def test_roads_on_no_way(self):
        for text in ("a b\na b 0 1\nb c 0 1", "a b\na c 0 1\na b 0 1", "a c\na b 0 1",
                     "a b\na b 0 1\nx y 0 1", "a b\na c 0 1\nb c 0 1\nc d 0 1\nc d 0 1"):
            self.refuse(text)

    def test_nine_roads(self):
        self.refuse("a b" + "\na b 0 1" * 9)
        self.refuse("a b" + "\na b 0 1" * 400)

    def test_no_other_error_of_the_package_is_seen(self):
        for text in ("a a\na b 0 1", "a b\na b 0 1\nb c 0 1", "a b"):
            with self.assertRaises(WrongValue) as caught:
                Web.told(text)
            self.assertIs(type(caught.exception), InvalidText)
            self.assertTrue(caught.exception.__suppress_context__ or caught.exception.__context__ is None)


if __name__ == "__main__":
    unittest.main()

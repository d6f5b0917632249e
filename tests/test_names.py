"""Point 2: a name is a text of one to twelve letters from a to z."""

import unittest

from stripmill.names import is_name, is_word

NAMES = ("a", "z", "m", "ab", "base", "aaaaaaaaaaaa", "abcdefghijkl", "qrstuvwxyz")
NO_NAMES = (
    "", "abcdefghijklm", "a" * 24,
    "A", "Base", "basE", "bAse", "BASE",
    "0", "a1", "1a", "a1b",
    " ", "a ", " a", "a b",
    "\n", "a\n", "\na", "a\nb",
    "_", "a_b", "-", "a-b", "a.b", "a,b", "`", "{", "a`", "a{", "~", "@", "[",
    "\u00e9", "a\u00df", "\u00aa",
)


class Names(unittest.TestCase):

    def test_names(self):
        for text in NAMES:
            with self.subTest(text):
                self.assertIs(is_name(text), True)

    def test_texts_that_are_none(self):
        for text in NO_NAMES:
            with self.subTest(text):
                self.assertIs(is_name(text), False)

    def test_every_length(self):
        for length in range(30):
            with self.subTest(length):
                self.assertIs(is_name("q" * length), 1 <= length <= 12)
                self.assertIs(is_word("q" * length), 1 <= length)

    def test_every_sign_alone_and_within(self):
        for code in range(ord(" "), ord("~") + 1):
            sign = chr(code)
            with self.subTest(sign):
                letter = sign in "abcdefghijklmnopqrstuvwxyz"
                self.assertIs(is_name(sign), letter)
                self.assertIs(is_name("a" + sign + "z"), letter)
                self.assertIs(is_word(sign), letter)
                self.assertIs(is_word("a" * 20 + sign), letter)


if __name__ == "__main__":
    unittest.main()

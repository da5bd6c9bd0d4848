"""[2], [4], [10]: WORDS, NUMBERS, TEXTS; NONE_BUT of the row "bounds"."""

import unittest

from pathfolios.bounds import NONE_BUT
from pathfolios.words import is_number, is_text, is_word
from tests.makers import ODD_THINGS


class Words(unittest.TestCase):
    def told(self, look, thing, so):
        self.assertIs(look(thing), so, repr(thing))

    def test_words(self):
        for thing in ("a", "z", "ab", "yes", "abcdefgh", "zzzzzzzz"):
            self.told(is_word, thing, True)

    def test_no_words(self):
        for thing in ("", "abcdefghi", "A", "aB", "a1", "1", "a b", " a", "a ", "a-b", "a_b", "`", "{", "a\n", "a.",
                      "\u00e4", "\u0430", 1, True, None, ("a",), ["a"], [], (), b"a"):
            self.told(is_word, thing, False)

    def test_numbers(self):
        for thing in (0, 1, -1, 10 ** 59, -(10 ** 59), 999999):
            self.told(is_number, thing, True)

    def test_no_numbers(self):
        for thing in (True, False, None, "1", "", 1.0, (1,), [1], (), [], b"1"):
            self.told(is_number, thing, False)

    def test_texts(self):
        for thing in ("", "a", "0", "9z", "a1b2", "abcdefghijklmnop", "0123456789abcdef", "z" * 16):
            self.told(is_text, thing, True)

    def test_no_texts(self):
        for thing in ("x" * 17, "abcdefghijklmnopq", "A", "a b", " ", "a-", "/", ":", "`", "{", '"', "a\n", "\u0661",
                      "\u00e9", "\u00b2", 1, True, None, ("a",), ["a"], (), [], b"a", "x" * 4000):
            self.told(is_text, thing, False)

    def test_odd_things(self):
        for thing in ODD_THINGS:
            for look in (is_word, is_number, is_text):
                self.told(look, thing, False)

    def test_none_but(self):
        self.assertEqual(NONE_BUT, ("and", ()))
        self.assertIs(type(NONE_BUT), tuple)


if __name__ == "__main__":
    unittest.main()

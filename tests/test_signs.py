"""[1.4]: signs, blanks and what words are made of, of characters that read never hands on, too."""

import unittest

from pathloom.signs import begins_word, end_of_signs, goes_on_in_word, is_blank, is_sign, leads_to_sign, referred_sign

CHARACTERS = [chr(number) for number in range(0x300)] + ["\u2028", "\u0661", "\uff21", "\ud800"]
LETTERS = "abcdefghijklmnopqrstuvwxyzABCDEFGHIJKLMNOPQRSTUVWXYZ"


class Signs(unittest.TestCase):
    def told(self, asked):
        return "".join(character for character in CHARACTERS if asked(character))

    def test_which_characters(self):
        self.assertEqual(self.told(is_blank), "\t\n ")
        self.assertEqual(self.told(is_sign), "\t\n" + "".join(map(chr, range(32, 127))))
        self.assertEqual(sorted(self.told(begins_word)), sorted(LETTERS + "_"))
        self.assertEqual(sorted(self.told(goes_on_in_word)), sorted(LETTERS + "_0123456789-."))

    def test_the_empty_text_behind_the_end(self):
        for asked in (is_blank, is_sign, begins_word, goes_on_in_word):
            self.assertFalse(asked(""))

    def test_end_of_signs(self):
        self.assertEqual([end_of_signs(text) for text in ("", "ab", "a\r", "\x7fa", "a\t\n\xe9~")], [0, 2, 1, 0, 3])

    def test_numbers(self):
        wanted = {number: chr(number) for number in [9, 10, *range(32, 37), *range(38, 127)]}
        for number in range(1200):
            self.assertEqual(referred_sign(number), wanted.get(number, ""))
            for base in (10, 16):
                goes_on = any(str_in(whole, base).startswith(str_in(number, base)) for whole in wanted)
                self.assertIs(leads_to_sign(number, base), goes_on or number == 0)


def str_in(number, base):
    return format(number, "x" if base == 16 else "d")


if __name__ == "__main__":
    unittest.main()

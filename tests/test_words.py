"""[4]: names, kinds, doings, letters."""

import itertools
import string
import unittest

from linecourt.words import is_kind, is_letter, is_name
from tests.samples import ODD_TEXTS, ODD_THINGS

BARRED = (
    "absurd all an and any are as at be by false if is least many more no not only or same some than the then there "
    "every either unless"
).split()
ALL = (is_name, is_kind, is_letter)


class Words(unittest.TestCase):
    def check(self, asked, text, wanted):
        told = asked(text)
        self.assertIs(told, wanted, (asked.__name__, text))

    def test_names(self):
        for text in ("A", "Z", "Ab", "Tom", "Abcdefgh", "Zzzzzzzz", "Every", "If", "The"):
            self.check(is_name, text, True)
        for text in ("Abcdefghi", "a", "tom", "TOm", "TO", "AB", "Tom1", "T1", "1", "aB", "Tom Tim", "To_m", "T'om"):
            self.check(is_name, text, False)

    def test_each_great_letter_is_a_name(self):
        for sign in string.ascii_uppercase:
            self.check(is_name, sign, True)
            for small in string.ascii_lowercase:
                self.check(is_name, sign + small, True)

    def test_kinds(self):
        for text in ("aa", "cat", "zz", "abcdefgh", "sees", "ifs", "isa", "a" * 8, "anda", "alla", "to", "of", "do"):
            self.check(is_kind, text, True)
        for text in ("a", "z", "x", "abcdefghi", "a" * 9, "Cat", "cAt", "caT", "ca1", "1ca", "c t", "c-t", "c_t"):
            self.check(is_kind, text, False)

    def test_each_word_of_the_list_is_no_kind(self):
        self.assertEqual(len(BARRED), 29)
        for text in BARRED:
            self.check(is_kind, text, False)
            self.check(is_kind, (text + "zz")[:8], True)

    def test_two_small_letters_are_a_kind_but_those_of_the_list(self):
        for one, other in itertools.product(string.ascii_lowercase, repeat=2):
            self.check(is_kind, one + other, one + other not in BARRED)

    def test_letters(self):
        for sign in string.printable:
            self.check(is_letter, sign, sign in "uvwxyz" and sign != "")
            for behind in string.printable:
                self.check(is_letter, sign + behind, sign in "uvwxyz" and behind in string.digits)
        for text in ("x10", "x00", "xx", "xx1", "1x", "X", "X1", "x 1", "x1 ", " x1", "uvwxyz", "uv", "x-1"):
            self.check(is_letter, text, False)

    def test_odd_texts_and_other_things(self):
        for asked in ALL:
            for thing in ODD_THINGS + ODD_TEXTS:
                self.assertIs(asked(thing), False, (asked.__name__, type(thing)))

    def test_no_text_is_two_of_them(self):
        for text in ("A", "Tom", "cat", "aa", "x", "x1", "uu", "zz", "Zz", "U1"):
            self.assertLessEqual(sum(asked(text) for asked in ALL), 1, text)


if __name__ == "__main__":
    unittest.main()

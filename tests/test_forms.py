"""[5], [6]: forms, their parts, letters and names, vocabularies."""

import copy
import itertools
import unittest

from linecourt.forms import free_letters, is_form, is_of, is_vocabulary, names_of, parts_of, put_for
from tests.samples import FORMS, ODD_TEXTS, ODD_THINGS, ONE, OTHER, SEES, TOM, deep_form, nest, wide_form

WORDS = ("is", "does", "same", "least", "false", "not", "and", "or", "if", "every", "some")
TERMS = ("Tom", "A", "Abcdefgh", "x", "u", "w9")
NO_TERMS = ("tom", "cat", "x10", "a", "Abcdefghi", "X1", "")
NO_SUMS = (
    ((("dog", 1), ("cat", 1)), 0), ((("cat", 1), ("cat", 1)), 0), ((("cat", 1), ("dog", 1), ("cat", 1)), 0),
    ((("cat", 0),), 0), ((("cat", -1),), 0), ((("cat", True),), 0), ((("cat", False),), 0), ((("cat", "1"),), 0),
    ((("cat", None),), 0), ((("cat", 1),), -1), ((("cat", 1),), True), ((("cat", 1),), False), ((("cat", 1),), None),
    ((), True), ((), False), ((), -1), ((), "0"), ((), ()), ((("cat", 1),),), ((), 0, 0), ((),), (0, ()), (0, 0),
    ((("cat",),), 0), ((("cat", 1, 1),), 0), ((("Tom", 1),), 0), ((("x", 1),), 0), ((("some", 1),), 0), (((1, "cat"),), 0),
    ((["cat", 1],), 0), ([("cat", 1)], 0), [(("cat", 1),), 0], (("cat", 1), 0), ("cat", 0), (((),), 0), ((None,), 0),
)


def swapped(form, at, piece):
    return form[:at] + (piece,) + form[at + 1:]


def closings(form):
    """All forms within a form, the outermost first, in an own way."""
    return [form] + [part for piece in form[1:] if is_form(piece) for part in closings(piece)]


class WhatIsAForm(unittest.TestCase):
    def no_form(self, thing):
        self.assertIs(is_form(thing), False, repr(thing)[:200])

    def test_each_word(self):
        for form in FORMS:
            self.assertIs(is_form(form), True, form)
        self.assertEqual({form[0] for form in FORMS}, set(WORDS))

    def test_terms(self):
        for term in TERMS:
            for form in (("is", term, "cat"), ("does", "sees", term, "A"), ("does", "sees", "A", term),
                         ("same", term, "A"), ("same", "A", term)):
                self.assertIs(is_form(form), True, form)
        for term in NO_TERMS + ODD_TEXTS + ODD_THINGS:
            for form in (("is", term, "cat"), ("does", "sees", term, "A"), ("does", "sees", "A", term),
                         ("same", term, "A"), ("same", "A", term)):
                self.no_form(form)

    def test_kinds_doings_letters(self):
        for text in ("cat", "aa", "abcdefgh"):
            self.assertIs(is_form(("is", "Tom", text)), True)
            self.assertIs(is_form(("does", text, "Tom", "Tom")), True)
        for text in ("a", "abcdefghi", "is", "some", "Tom", "x", "x1") + ODD_TEXTS + ODD_THINGS:
            self.no_form(("is", "Tom", text))
            self.no_form(("does", text, "Tom", "Tom"))
        for word in ("every", "some"):
            for letter in ("u", "v", "w", "x", "y", "z", "x0", "z9"):
                self.assertIs(is_form((word, letter, TOM)), True)
            for letter in ("a", "t", "x10", "X", "Tom", "cat", "xx") + ODD_TEXTS + ODD_THINGS:
                self.no_form((word, letter, TOM))

    def test_sums(self):
        for total in (ONE, OTHER, ((), 0), ((("cat", 1),), 0), ((("aa", 1), ("ab", 2), ("b" * 8, 3)), 10 ** 12 - 1)):
            self.assertIs(is_form(("least", total, OTHER)), True)
            self.assertIs(is_form(("least", OTHER, total)), True)
        for total in NO_SUMS + ODD_THINGS + ODD_TEXTS:
            self.no_form(("least", total, OTHER))
            self.no_form(("least", OTHER, total))

    def test_pieces_left_out_and_put_in(self):
        for form in FORMS:
            for at in range(len(form)):
                self.no_form(form[:at] + form[at + 1:])
                self.no_form(form[:at] + (form[at],) + form[at:])
            for more in (None, TOM, "Tom", 0, ()):
                self.no_form(form + (more,))
                self.no_form((more,) + form)

    def test_pieces_of_another_kind(self):
        for form in FORMS:
            for at in range(1, len(form)):
                for piece in ODD_THINGS + ODD_TEXTS:
                    self.no_form(swapped(form, at, piece))
                if not isinstance(form[at], tuple):
                    self.no_form(swapped(form, at, TOM))
                    self.no_form(swapped(form, at, ONE))

    def test_other_words(self):
        for form in FORMS:
            for word in ("", "iff", "Is", "is ", "no", "all", "any", "then", "unless", "absurd", "Tom", "cat"):
                self.no_form(swapped(form, 0, word))
            for word in WORDS:
                told = is_form(swapped(form, 0, word))
                alike = ({"and", "or", "if"}, {"every", "some"}, {word})
                self.assertIs(told, any({word, form[0]} <= group for group in alike), (word, form))
            for word in ODD_THINGS:
                self.no_form(swapped(form, 0, word))

    def test_lists_for_tuples(self):
        for form in FORMS:
            self.no_form(list(form))
            for at, piece in enumerate(form):
                if isinstance(piece, tuple):
                    self.no_form(swapped(form, at, list(piece)))
        self.no_form(("not", ("not", ["not", TOM])))

    def test_anything(self):
        for thing in ODD_THINGS + ODD_TEXTS + WORDS:
            self.no_form(thing)
            self.no_form(("not", thing))
            self.no_form(("and", TOM, thing))
            self.no_form(("every", "x", ("or", thing, TOM)))

    def test_twelve_within_one_another_and_more(self):
        for deep in (12, 19):
            form = TOM
            for _ in range(deep - 1):
                form = ("not", form)
            self.assertIs(is_form(form), True)
            wrong = ("is", "Tom", "is")
            for _ in range(deep - 1):
                wrong = ("not", wrong)
            self.no_form(wrong)
        self.assertIs(is_form(deep_form(12)), True)
        self.no_form(("not", nest(18, "Tom")))

    def test_many_parts(self):
        for parts in (119, 121, 301):
            form = wide_form(parts)
            self.assertEqual(len(parts_of(form)), parts)
            self.assertIs(is_form(form), True)
        self.assertIs(is_form(("not", wide_form(119))), True)
        self.no_form(("not", ("and", wide_form(117), ("is", "Tom", "Tom"))))

    def test_great_numbers_are_numbers(self):
        self.assertIs(is_form(("least", ((("cat", 10 ** 12),), 10 ** 30), OTHER)), True)


class PartsOfForms(unittest.TestCase):
    def test_order(self):
        one, other, third = ("is", "Ann", "cat"), ("is", "Bob", "dog"), ("same", "Ann", "Bob")
        form = ("if", ("and", one, ("not", other)), ("every", "x", ("or", third, one)))
        self.assertEqual(parts_of(form), (
            form, ("and", one, ("not", other)), one, ("not", other), other,
            ("every", "x", ("or", third, one)), ("or", third, one), third, one,
        ))

    def test_each_form(self):
        for form in FORMS + (deep_form(12), wide_form(119)):
            told = parts_of(form)
            self.assertIsInstance(told, tuple)
            self.assertEqual(list(told), closings(form))

    def test_a_part_that_stands_twice_is_told_twice(self):
        self.assertEqual(parts_of(("and", TOM, TOM)), (("and", TOM, TOM), TOM, TOM))

    def test_120_parts(self):
        form = ("not", wide_form(119))
        self.assertEqual(len(parts_of(form)), 120)


class LettersAndNames(unittest.TestCase):
    def test_free_letters(self):
        is_x, is_y = ("is", "x", "cat"), ("is", "y", "cat")
        for form, wanted in (
            (TOM, ()), (SEES, ("x1",)), (is_x, ("x",)), (("same", "z", "u"), ("u", "z")), (("same", "x", "x"), ("x",)),
            (("does", "sees", "x9", "x"), ("x", "x9")), (("every", "x", is_x), ()), (("some", "x", is_x), ()),
            (("every", "y", is_x), ("x",)), (("and", is_x, ("every", "x", is_x)), ("x",)),
            (("and", ("every", "x", is_x), is_x), ("x",)), (("every", "x", ("some", "x", is_x)), ()),
            (("some", "y", ("or", is_x, ("every", "x", is_y))), ("x",)), (("not", ("if", is_y, is_x)), ("x", "y")),
            (("every", "x1", is_x), ("x",)), (("every", "x", ("is", "x1", "cat")), ("x1",)), (("false",), ()),
            (("least", ONE, OTHER), ()), (("every", "x", TOM), ()),
            (("or", ("is", "z", "cat"), ("or", ("is", "u0", "cat"), ("same", "y2", "u"))), ("u", "u0", "y2", "z")),
        ):
            told = free_letters(form)
            self.assertEqual(told, wanted, form)
            self.assertIsInstance(told, tuple)
        self.assertEqual(free_letters(deep_form(12)), ())

    def test_names_of(self):
        for form, wanted in (
            (TOM, ("Tom",)), (("same", "T", "A"), ("A", "T")), (("same", "T", "T"), ("T",)), (("false",), ()),
            (("is", "x", "cat"), ()), (("does", "sees", "Zed", "Abe"), ("Abe", "Zed")), (("least", ONE, OTHER), ()),
            (("every", "x", ("and", ("same", "x", "Bob"), ("not", ("does", "sees", "Ann", "x")))), ("Ann", "Bob")),
            (("or", ("is", "Tom", "cat"), ("if", ("is", "Ann", "cat"), ("is", "Tom", "dog"))), ("Ann", "Tom")),
        ):
            told = names_of(form)
            self.assertEqual(told, wanted, form)
            self.assertIsInstance(told, tuple)


class Putting(unittest.TestCase):
    def test_wherever_it_is_free(self):
        for form, wanted in (
            (("is", "x", "cat"), ("is", "Tom", "cat")),
            (("same", "x", "x"), ("same", "Tom", "Tom")),
            (("does", "sees", "x", "y"), ("does", "sees", "Tom", "y")),
            (("does", "sees", "y", "x"), ("does", "sees", "y", "Tom")),
            (("is", "x1", "cat"), ("is", "x1", "cat")),
            (("is", "Ann", "cat"), ("is", "Ann", "cat")),
            (("false",), ("false",)),
            (("least", ONE, OTHER), ("least", ONE, OTHER)),
            (("every", "x", ("is", "x", "cat")), ("every", "x", ("is", "x", "cat"))),
            (("some", "x", ("is", "x", "cat")), ("some", "x", ("is", "x", "cat"))),
            (("every", "y", ("same", "x", "y")), ("every", "y", ("same", "Tom", "y"))),
            (("some", "y", ("every", "x", ("same", "x", "y"))), ("some", "y", ("every", "x", ("same", "x", "y")))),
            (("and", ("is", "x", "cat"), ("every", "x", ("is", "x", "dog"))),
             ("and", ("is", "Tom", "cat"), ("every", "x", ("is", "x", "dog")))),
            (("if", ("not", ("is", "x", "cat")), ("or", ("some", "x", ("is", "x", "dog")), ("is", "x", "dog"))),
             ("if", ("not", ("is", "Tom", "cat")), ("or", ("some", "x", ("is", "x", "dog")), ("is", "Tom", "dog")))),
        ):
            before = copy.deepcopy(form)
            self.assertEqual(put_for(form, "x", "Tom"), wanted)
            self.assertEqual(form, before)

    def test_kinds_and_doings_stay(self):
        self.assertEqual(put_for(("does", "xx", "x", "x"), "x", "X"), ("does", "xx", "X", "X"))

    def test_what_comes_is_a_form_without_the_letter(self):
        for form in FORMS + (deep_form(12)[2], deep_form(12)[2][2], wide_form(119)):
            for letter in ("x", "y", "x1", "z9", "u"):
                told = put_for(form, letter, "Zed")
                self.assertIs(is_form(told), True)
                self.assertEqual(free_letters(told), tuple(one for one in free_letters(form) if one != letter))
                added = ("Zed",) if letter in free_letters(form) else ()
                self.assertEqual(names_of(told), tuple(sorted(set(names_of(form) + added))))


class Vocabularies(unittest.TestCase):
    def test_vocabularies(self):
        for thing in (
            ((), (), ()), (("Ann",), (), ()), (("A", "B", "Ba"), ("cat", "dog"), ("likes", "sees")),
            ((), ("sees",), ("likes",)), (("Ann",), ("aa", "ab", "b" * 8), ()),
        ):
            self.assertIs(is_vocabulary(thing), True, thing)

    def test_however_many(self):
        names = tuple(sorted("N" + "".join(tail) for tail in itertools.product("abcdef", repeat=4)))
        kinds = tuple("k" + name[1:] for name in names)
        doings = tuple("d" + name[1:] for name in names)
        self.assertIs(is_vocabulary((names, kinds, doings)), True)
        self.assertIs(is_vocabulary((names, kinds, doings[:700] + kinds[700:701])), False)
        self.assertIs(is_vocabulary((names, kinds + kinds[-1:], doings)), False)
        self.assertIs(is_vocabulary((names + names[:1], kinds, doings)), False)

    def test_wrong_ones(self):
        good = (("Ann", "Bob"), ("cat", "dog"), ("likes", "sees"))
        self.assertIs(is_vocabulary(good), True)
        for at in range(3):
            row = good[at]
            for wrong in (row[::-1], row + row[:1], row + row[1:], (row[0], row[0]), list(row), row[0], None, set(row),
                          row + ("x",), row + (1,), row + (None,), row + (row,), (b"cat",), ("zz1",), ("",), ("some",)):
                self.assertIs(is_vocabulary(swapped(good, at, wrong)), False, wrong)
            self.assertIs(is_vocabulary(good[:at] + good[at + 1:]), False)
            self.assertIs(is_vocabulary(good[:at] + good[at:at + 1] + good[at:]), False)
        for wrong in ((("cat",), (), ()), ((), ("Ann",), ()), ((), (), ("Ann",)), ((), ("cat",), ("cat",)),
                      ((), ("cat", "dog"), ("dog", "sees")), list(good), good + ((),), ((), ()), ()):
            self.assertIs(is_vocabulary(wrong), False, wrong)

    def test_anything(self):
        for thing in ODD_THINGS + ODD_TEXTS + FORMS:
            self.assertIs(is_vocabulary(thing), False)
            for at in range(3):
                self.assertIs(is_vocabulary(swapped(((), (), ()), at, (thing,))), False)
                self.assertIs(is_vocabulary(swapped(((), (), ()), at, [thing])), False)
        for thing in ODD_THINGS[:12] + ODD_THINGS[16:] + ODD_TEXTS:
            for at in range(3):
                self.assertIs(is_vocabulary(swapped(((), (), ()), at, thing)), False)


class OfAVocabulary(unittest.TestCase):
    FULL = (("Ann", "Tom"), ("ant", "cat", "dog"), ("likes", "sees"))

    def test_all_words_stand_there(self):
        for form in (TOM, SEES, ("least", ONE, OTHER), ("false",), ("every", "x", ("is", "x", "ant")), deep_form(12),
                     wide_form(119), ("is", "x", "cat"), ("same", "x", "y")):
            self.assertIs(is_of(self.FULL, form), True, form)
        self.assertIs(is_of(((), (), ()), ("every", "x", ("same", "x", "y"))), True)
        self.assertIs(is_of(((), (), ()), ("least", OTHER, ((), 0))), True)

    def test_each_word_that_lacks(self):
        form = ("and", ("does", "sees", "Tom", "x"), ("every", "x", ("if", ("same", "x", "Ann"), ("or",
                ("is", "x", "ant"), ("not", ("least", ((("dog", 1),), 0), ((("cat", 2),), 1)))))))
        self.assertIs(is_of(self.FULL, form), True)
        needed = (("Ann", "Tom"), ("ant", "cat", "dog"), ("sees",))
        self.assertIs(is_of(needed, form), True)
        for at in range(3):
            for word in needed[at]:
                lacking = swapped(needed, at, tuple(one for one in needed[at] if one != word))
                self.assertIs(is_of(lacking, form), False, word)

    def test_anything(self):
        for thing in ODD_THINGS + ODD_TEXTS:
            self.assertIs(is_of(self.FULL, thing), False)
            self.assertIs(is_of(thing, TOM), False)
            self.assertIs(is_of(self.FULL, ("not", thing)), False)
        self.assertIs(is_of((("Tom", "Ann"), ("cat",), ()), TOM), False)
        self.assertIs(is_of(self.FULL, ("is", "Tom", "cat", "dog")), False)

    def test_a_kind_is_no_doing(self):
        self.assertIs(is_of((("Tom",), ("sees",), ()), ("does", "sees", "Tom", "Tom")), False)
        self.assertIs(is_of((("Tom",), (), ("cat",)), TOM), False)
        self.assertIs(is_of((("Tom",), (), ("cat",)), ("least", ((("cat", 1),), 0), OTHER)), False)
        self.assertIs(is_of((("Tom",), ("sees",), ()), ("is", "Tom", "sees")), True)

    def test_each_place_of_a_name(self):
        words = (("Tom",), ("cat",), ("sees",))
        for form in (("is", "Ann", "cat"), ("does", "sees", "Ann", "Tom"), ("does", "sees", "Tom", "Ann"),
                     ("same", "Ann", "Tom"), ("same", "Tom", "Ann")):
            self.assertIs(is_of(words, form), False)
            self.assertIs(is_of(words, ("not", ("some", "x", ("or", TOM, form)))), False)


if __name__ == "__main__":
    unittest.main()

"""[13], [14], [15], of [23]: what is an argument, what it shows, names and what is supposed at a line."""

import itertools
import unittest

from linecourt.arguments import is_argument, names_at, shown, supposed_at
from tests.samples import ODD_TEXTS, ODD_THINGS, deep_form, wide_form

FULL = (("Ann", "Bob"), ("cat", "dog"), ("likes", "sees"))
ANN, BOB = ("is", "Ann", "cat"), ("is", "Bob", "dog")
GIVEN = (0, ANN, ("given",))
MEANINGS = (
    ("pet", "x1", ("or", ("is", "x1", "cat"), ("is", "x1", "dog"))),
    ("friend", "y1", ("and", ("is", "y1", "pet"), ("some", "z1", ("does", "likes", "z1", "y1")))),
)
# Boxes of all three sorts, within and beside one another.
LINES = (
    (0, ANN, ("given",)),
    (0, ("some", "x", ("is", "x", "dog")), ("given",)),
    (1, BOB, ("supposed",)),
    (2, ("same", "Zed", "Zed"), ("any", "Zed")),
    (3, ("is", "Zoe", "dog"), ("called", "Zoe", 2)),
    (3, ("does", "sees", "Zoe", "Zed"), ("clearly",)),
    (2, ("is", "Zed", "friend"), ("by", (1, 2))),
    (2, ("same", "Max", "Max"), ("any", "Max")),
    (1, ("and", ANN, BOB), ("both", 1, 3)),
    (0, ("if", BOB, ("and", ANN, BOB)), ("soif", 3)),
)
ARGUMENT = (FULL, MEANINGS, LINES)

NUMBERS_ONLY = {
    "again": 1, "both": 2, "left": 1, "right": 1, "orleft": 1, "orright": 1, "then": 2, "absurd": 2, "nothing": 1, "put": 2,
    "soif": 1, "not": 1, "contrary": 1, "cases": 3, "forany": 1, "forsome": 1, "meaning": 1, "asmany": 1, "one": 1, "two": 3,
    "someof": 1, "none": 1, "nomore": 1, "apart": 2, "cover": 1, "turned": 1, "given": 0, "itself": 0, "clearly": 0,
}
RIGHT_REASONS = tuple((word,) + (1, 2, 3)[:many] for word, many in NUMBERS_ONLY.items()) + (
    ("at", 1, "Ann"), ("at", 3, "Nobody"), ("such", 1, "Ann"), ("such", 2, "Zzzzzzzz"), ("earlier", "a", ()), ("earlier", "abcdefgh", (1,)),
    ("earlier", "any", (1, 1, 2, 3)), ("sums", (), ()), ("sums", (1,), (0,)), ("sums", (1, 2, 2, 3), (0, 1, 2, 10 ** 12 - 1)),
    ("by", (1,)), ("by", (1, 2)), ("by", (3, 3, 3)),
)


def swapped(row, at, piece):
    return row[:at] + (piece,) + row[at + 1:]


def with_form(form, meanings=()):
    return (FULL, meanings, ((0, form, ("given",)),))


def with_reason(reason):
    """Three lines, the second one with a reason that opens nothing."""
    return (FULL, (), (GIVEN, (0, ANN, reason), (0, ANN, ("again", 1))))


def with_levels(text):
    """Lines by their levels, an opener having a * behind: 0 1* 1 0."""
    lines = tuple((int(word.rstrip("*")), ANN, ("supposed",) if "*" in word else ("clearly",)) for word in text.split(" "))
    return (FULL, (), lines)


class Asking(unittest.TestCase):
    def yes(self, thing):
        self.assertIs(is_argument(thing), True, repr(thing)[:300])

    def no(self, thing):
        self.assertIs(is_argument(thing), False, repr(thing)[:300])


class WholeArguments(Asking):
    def test_arguments(self):
        self.yes(ARGUMENT)
        self.yes((((), (), ()), (), ((0, ("false",), ("given",)),)))
        self.yes((FULL, (), (GIVEN,)))
        self.yes((FULL, MEANINGS, (GIVEN,)))
        self.yes((FULL, MEANINGS, (GIVEN,) * 60))

    def test_parts_left_out_put_in_of_another_kind(self):
        for at in range(3):
            self.no(ARGUMENT[:at] + ARGUMENT[at + 1:])
            self.no(ARGUMENT[:at] + ARGUMENT[at:at + 1] + ARGUMENT[at:])
            self.no(swapped(ARGUMENT, at, list(ARGUMENT[at])))
            for thing in ODD_THINGS + ODD_TEXTS:
                self.no(swapped(ARGUMENT, at, thing))
            for other in range(3):
                if other != at:
                    self.no(swapped(ARGUMENT, at, ARGUMENT[other]))
        self.no(list(ARGUMENT))
        self.no(ARGUMENT + ((),))

    def test_anything(self):
        for thing in ODD_THINGS + ODD_TEXTS + LINES + (FULL, MEANINGS, LINES):
            self.no(thing)
            self.no((thing, thing, thing))
            self.no((FULL, (thing,), (GIVEN,)))
        for thing in ODD_THINGS + ODD_TEXTS + (FULL, MEANINGS, LINES):
            self.no((FULL, (), (thing,)))
            self.no((FULL, (), (GIVEN, thing)))
            self.no((FULL, (), (thing, GIVEN)))

    def test_vocabularies(self):
        for at in range(3):
            self.no((swapped(FULL, at, FULL[at][::-1]), (), (GIVEN,)))
            self.no((swapped(FULL, at, FULL[at] + FULL[at][1:]), (), (GIVEN,)))
        self.no(((("Ann",), ("cat",), ("cat",)), (), (GIVEN,)))

    def test_there_is_a_line(self):
        self.no((FULL, (), ()))
        self.no((((), (), ()), (), ()))

    def test_lines(self):
        for at in range(3):
            self.no((FULL, (), (GIVEN[:at] + GIVEN[at + 1:],)))
            self.no((FULL, (), (GIVEN[:at] + GIVEN[at:at + 1] + GIVEN[at:],)))
            for thing in ODD_THINGS + ODD_TEXTS:
                if at > 0 or isinstance(thing, bool) or not isinstance(thing, int):
                    self.no((FULL, (), (swapped(GIVEN, at, thing),)))
        self.no((FULL, (), (list(GIVEN),)))
        self.no((FULL, (), [GIVEN]))
        self.no((FULL, (), GIVEN))
        self.no((FULL, (), ((0, list(ANN), ("given",)),)))
        self.no((FULL, (), ((0, ANN, ["given"]),)))
        self.no((FULL, (), ((0, ANN, "given"),)))


class MeaningsOfArguments(Asking):
    CAT = ("is", "x1", "cat")

    def meanings(self, *told):
        return (FULL, told, (GIVEN,))

    def test_meanings(self):
        for told in (
            (), (("pet", "x1", self.CAT),), (("pet", "x1", ("false",)),), (("pet", "z9", ("same", "z9", "Ann")),),
            (("pet", "x1", ("every", "x1", self.CAT)),), (("pet", "x1", ("some", "y1", ("does", "sees", "y1", "x1"))),),
            (("pet", "x1", self.CAT), ("zoo", "x2", ("not", ("is", "x2", "pet")))), MEANINGS,
            (("pet", "x1", ("every", "y1", ("every", "y1", ("same", "x1", "y1")))),),
            (("aa", "x1", self.CAT), ("ab", "x2", ("is", "x2", "aa")), ("ac", "x3", ("and", ("is", "x3", "ab"), ("is", "x3", "aa")))),
        ):
            self.yes((FULL, told, (GIVEN,)))

    def test_parts_left_out_put_in_of_another_kind(self):
        good = ("pet", "x1", self.CAT)
        for at in range(3):
            self.no(self.meanings(good[:at] + good[at + 1:]))
            self.no(self.meanings(good[:at] + good[at:at + 1] + good[at:]))
            for thing in ODD_THINGS + ODD_TEXTS:
                self.no(self.meanings(swapped(good, at, thing)))
        self.no(self.meanings(list(good)))
        self.no(self.meanings(good[::-1]))
        self.no((FULL, [good], (GIVEN,)))
        self.no((FULL, good, (GIVEN,)))
        self.no((FULL, {good: 1}, (GIVEN,)))

    def test_the_kind(self):
        for kind in ("cat", "dog", "likes", "sees", "a", "x", "some", "is", "Pet", "abcdefghi", "x1"):
            self.no(self.meanings((kind, "x1", self.CAT)))
        self.no(self.meanings(("pet", "x1", self.CAT), ("pet", "x2", ("is", "x2", "dog"))))
        self.yes(self.meanings(("abcdefgh", "x1", self.CAT)))

    def test_the_letter(self):
        for letter in ("x", "u", "x10", "a1", "X1", "Ann", "cat"):
            self.no(self.meanings(("pet", letter, ("is", letter, "cat"))))
            self.no(self.meanings(("pet", letter, ("false",))))

    def test_the_form(self):
        for form in (
            ("is", "x2", "cat"), ("and", self.CAT, ("is", "y1", "cat")), ("every", "y1", ("does", "sees", "y1", "z1")),
            ("is", "Zed", "cat"), ("is", "x1", "owl"), ("does", "hits", "x1", "x1"), ("is", "x1", "pet"), ("is", "x1", "zoo"),
            ("least", ((("cat", 1),), 0), ((), 1)), ("least", ((), 1), ((), 0)), ("and", self.CAT, ("least", ((), 0), ((), 0))),
            ("not", ("every", "y1", ("or", self.CAT, ("not", ("least", ((), 0), ((), 0)))))),
            ("every", "x", ("is", "x", "cat")), ("every", "x", self.CAT), ("some", "y1", ("every", "u", ("same", "x1", "y1"))),
            ("is", "x1", "sees"), ("does", "cat", "x1", "x1"), ("is", "x1", "some"),
        ):
            self.no(self.meanings(("pet", "x1", form)))

    def test_kinds_of_meanings_ahead_alone(self):
        first, second = ("pet", "x1", self.CAT), ("zoo", "x2", ("is", "x2", "pet"))
        self.yes(self.meanings(first, second))
        self.no(self.meanings(second, first))
        self.no(self.meanings(("pet", "x1", ("is", "x1", "zoo")), ("zoo", "x2", ("is", "x2", "cat"))))

    def test_no_letter_in_two_meanings(self):
        one = ("pet", "x1", ("some", "y1", ("does", "sees", "x1", "y1")))
        for other in (
            ("zoo", "x1", ("is", "x1", "cat")), ("zoo", "y1", ("is", "y1", "cat")), ("zoo", "x1", ("false",)), ("zoo", "y1", ("false",)),
            ("zoo", "x2", ("every", "x1", ("is", "x1", "cat"))), ("zoo", "x2", ("every", "y1", ("is", "x2", "cat"))),
            ("zoo", "x2", ("some", "x3", ("some", "y1", ("false",)))),
        ):
            self.no(self.meanings(one, other))
            self.no(self.meanings(other, one))
            self.no(self.meanings(one, ("mid", "z1", ("is", "z1", "cat")), other))
        self.yes(self.meanings(one, ("zoo", "x2", ("every", "y2", ("does", "sees", "x2", "y2")))))


class FormsOfLines(Asking):
    def test_forms(self):
        for form in (
            ANN, BOB, ("false",), ("least", ((("cat", 1), ("dog", 2)), 1), ((), 3)), ("every", "x", ("is", "x", "cat")),
            ("some", "x1", ("does", "sees", "x1", "Ann")), ("every", "x", ("some", "x", ("same", "x", "x"))), ("not", ANN),
        ):
            self.yes(with_form(form))
            self.yes(with_form(form, MEANINGS))
        vocabulary = (("Ann", "Tom"), ("cat", "dog"), ("sees",))
        self.yes((vocabulary, (), ((0, deep_form(12), ("given",)),)))
        self.yes((vocabulary, (), ((0, ("not", wide_form(119)), ("given",)),)))

    def test_not_closed(self):
        for form in (("is", "x", "cat"), ("every", "x", ("does", "sees", "x", "y")), ("and", ("every", "x", ANN), ("is", "x", "cat")),
                     ("is", "x1", "cat"), ("some", "x1", ("is", "x", "cat"))):
            self.no(with_form(form))
            self.no(with_form(form, MEANINGS))

    def test_words_that_lack(self):
        for form in (("is", "Zed", "cat"), ("is", "Ann", "owl"), ("does", "hits", "Ann", "Bob"), ("same", "Ann", "Zed"),
                     ("least", ((("owl", 1),), 0), ((), 1)), ("least", ((), 1), ((("owl", 1),), 0)), ("is", "Ann", "sees"),
                     ("does", "cat", "Ann", "Ann"), ("not", ("every", "x", ("or", ANN, ("is", "x", "owl"))))):
            self.no(with_form(form))
            self.no(with_form(form, MEANINGS))

    def test_kinds_of_meanings(self):
        for form in (("is", "Ann", "pet"), ("is", "Bob", "friend"), ("every", "x", ("if", ("is", "x", "friend"), ("is", "x", "pet"))),
                     ("every", "x2", ("is", "x2", "pet"))):
            self.yes(with_form(form, MEANINGS))
            self.no(with_form(form))
        self.no(with_form(("does", "pet", "Ann", "Ann"), MEANINGS))

    def test_no_sum_counts_a_meanings_kind(self):
        for total in (((("pet", 1),), 0), ((("cat", 1), ("friend", 2)), 1)):
            self.no(with_form(("least", total, ((), 0)), MEANINGS))
            self.no(with_form(("least", ((), 0), total), MEANINGS))
            self.no(with_form(("not", ("or", ANN, ("least", ((), 0), total))), MEANINGS))

    def test_no_meanings_kind_within_a_letter_of_a_meaning(self):
        for letter, kind in itertools.product(("x1", "y1", "z1"), ("pet", "friend")):
            for word in ("every", "some"):
                self.no(with_form((word, letter, ("is", letter, kind)), MEANINGS))
                self.no(with_form((word, letter, ("is", "Ann", kind)), MEANINGS))
                self.no(with_form((word, letter, ("not", ("every", "x", ("or", ANN, ("is", "x", kind))))), MEANINGS))
                self.no(with_form(("every", "x", (word, letter, ("is", "x", kind))), MEANINGS))
                self.yes(with_form((word, letter, ("is", letter, "cat")), MEANINGS))
                self.yes(with_form(("and", (word, letter, ("is", letter, "cat")), ("is", "Ann", kind)), MEANINGS))
                self.yes(with_form((word, letter[0], (word, letter[0] + "9", ("is", letter[0], kind))), MEANINGS))

    def test_names_of_openers(self):
        zed, zoe = ("is", "Zed", "cat"), ("is", "Zoe", "cat")
        opened = (1, ("same", "Zed", "Zed"), ("any", "Zed"))
        self.yes((FULL, (), (opened, (1, zed, ("clearly",)), (0, ANN, ("clearly",)))))
        self.no((FULL, (), (opened, (1, zed, ("clearly",)), (0, zed, ("clearly",)))))
        self.no((FULL, (), ((0, zed, ("given",)), opened, (0, ANN, ("clearly",)))))
        self.no((FULL, (), (opened, (1, zoe, ("clearly",)), (0, ANN, ("clearly",)))))
        self.no((FULL, (), (opened, (1, zed, ("supposed",)), (0, ANN, ("clearly",)))))
        self.yes((FULL, (), (opened, (2, zed, ("supposed",)), (0, ANN, ("clearly",)))))
        called = (2, ("is", "Zoe", "cat"), ("called", "Zoe", 1))
        self.yes((FULL, (), (opened, called, (2, ("same", "Zed", "Zoe"), ("clearly",)), (1, zed, ("clearly",)), (0, ANN, ("clearly",)))))
        self.no((FULL, (), (opened, called, (1, zoe, ("clearly",)), (0, ANN, ("clearly",)))))
        # A name that a reason alone has, or that comes later, is no name of the line.
        self.no((FULL, (), (GIVEN, (0, zed, ("at", 1, "Zed")))))
        self.no((FULL, (), ((1, zed, ("supposed",)), (1, ("same", "Zed", "Zed"), ("any", "Zed")), (0, ANN, ("clearly",)))))

    def test_names_of_openers_are_unlike(self):
        def lines(one, other, between=()):
            return (FULL, (), ((1, ANN, one),) + between + ((1, ANN, other), (0, ANN, ("clearly",))))
        for one, other in itertools.product((("any", "Zed"), ("called", "Zed", 1)), repeat=2):
            self.no(lines(one, other))
            self.no(lines(one, other, ((0, ANN, ("clearly",)),)))
            self.yes(lines(one, (other[0], "Zoe") + other[2:]))
        for reason in (("any", "Ann"), ("called", "Bob", 1)):
            self.no(lines(reason, ("supposed",)))
            self.no(lines(("supposed",), reason))
        self.no((FULL, (), ((1, ANN, ("any", "Zed")), (2, ANN, ("any", "Zed")), (0, ANN, ("clearly",)))))

    def test_the_form_of_an_opener_need_not_fit(self):
        self.yes((FULL, (), ((1, ANN, ("any", "Zed")), (1, BOB, ("called", "Zoe", 3)), (0, ANN, ("given",)))))


class Levels(Asking):
    def test_levels(self):
        for text in ("0", "0 0", "1* 0", "1* 1 0", "1* 1* 0", "0 1* 2* 3* 3 0", "1* 2* 1* 0", "1* 2* 2* 1 0", "1* 2* 3* 1 1 0 0",
                     "1* 2* 3* 4* 5* 6* 7* 8* 8 7 6 5 4 3 2 1 0", "1* 2* 3* 2 3* 0", "1* 2* 3* 4* 5* 6* 7* 8* 0"):
            self.yes(with_levels(text))
        self.yes(with_levels(" ".join(["1*", "1"] * 29 + ["0", "0"])))

    def test_wrong_levels(self):
        for text in ("1 0", "0*", "0* 0", "2* 0", "0 1 0", "0 2* 0", "1* 2 0", "1* 3* 0", "1* 2* 1 2 0", "1* 0 1 0", "1* 2* 4* 0",
                     "-1 0", "0 -1 0", "0 -1", "1* -1 0", "1* 0* 0", "1* 0 2* 0", "1* 1 0*"):
            self.no(with_levels(text))

    def test_the_last_one_has_the_level_0(self):
        for text in ("1*", "1* 1", "0 1*", "1* 2* 2", "1* 2* 1", "0 0 1* 0 1*"):
            self.no(with_levels(text))

    def test_whole_numbers(self):
        for level in (True, False, None, "0", (0,), [0], ()):
            self.no((FULL, (), ((level, ANN, ("given",)),)))
            self.no((FULL, (), (GIVEN, (level, ANN, ("supposed",)), GIVEN)))
        self.no((FULL, (), ((True, ANN, ("supposed",)), GIVEN)))
        self.yes((FULL, (), ((1, ANN, ("supposed",)), GIVEN)))


class Reasons(Asking):
    def test_right_ones(self):
        for reason in RIGHT_REASONS:
            self.yes(with_reason(reason))
        for reason in (("supposed",), ("any", "Zed"), ("any", "Zzzzzzzz"), ("called", "Zed", 1), ("called", "Z", 3)):
            self.yes((FULL, (), (GIVEN, (1, ANN, reason), GIVEN)))
        self.assertEqual(len({reason[0] for reason in RIGHT_REASONS}) + 3, 37)

    def test_openers_with_wrong_parts(self):
        for reason in (
            ("supposed", 1), ("supposed", "Zed"), ("any",), ("any", "Zed", 1), ("any", 1), ("any", "zed"), ("any", "x"), ("any", None),
            ("any", ("Zed",)), ("any", "Abcdefghi"), ("called",), ("called", "Zed"), ("called", 1), ("called", 1, "Zed"),
            ("called", "Zed", 0), ("called", "Zed", 4), ("called", "Zed", True), ("called", "Zed", (1,)), ("called", "Zed", 1, 1),
            ("called", "zed", 1), ("called", "Zed", "1"), ("called", "Zed", None), ["any", "Zed"], "supposed",
        ):
            for level in (0, 1):
                self.no((FULL, (), (GIVEN, (level, ANN, reason), GIVEN)))

    def test_parts_left_out_and_put_in(self):
        for reason in RIGHT_REASONS:
            for at in range(len(reason)):
                self.no(with_reason(reason[:at] + reason[at + 1:]))
            for more in (1, "Ann", (), (1,), None):
                self.no(with_reason(reason + (more,)))
                self.no(with_reason((more,) + reason))
                self.no(with_reason((reason[0], more) + reason[1:]))
            self.no(with_reason(list(reason)))

    def test_parts_of_another_kind(self):
        for reason in RIGHT_REASONS:
            for at in range(1, len(reason)):
                for thing in ODD_THINGS + ODD_TEXTS:
                    if isinstance(thing, tuple) and isinstance(reason[at], tuple):
                        continue
                    if not (isinstance(thing, int) and thing == 1 and not isinstance(thing, bool) and isinstance(reason[at], int)):
                        self.no(with_reason(swapped(reason, at, thing)))

    def test_numbers_of_lines(self):
        for word, many in NUMBERS_ONLY.items():
            for at in range(many):
                reason = (word,) + (1,) * many
                for number, wanted in ((1, True), (2, True), (3, True), (0, False), (4, False), (-1, False), (True, False),
                                       (False, False), ("1", False), (None, False), ((1,), False), (10 ** 12, False)):
                    self.assertIs(is_argument(with_reason(swapped(reason, at + 1, number))), wanted, (word, at, number))
        for word in ("at", "such"):
            for number, wanted in ((1, True), (3, True), (0, False), (4, False), (True, False), ("Ann", False)):
                self.assertIs(is_argument(with_reason((word, number, "Ann"))), wanted)
            for name, wanted in (("Zed", True), ("A", True), ("Abcdefgh", True), ("Abcdefghi", False), ("ann", False), ("x", False),
                                 ("cat", False), (1, False), ("", False), (None, False)):
                self.assertIs(is_argument(with_reason((word, 1, name))), wanted)

    def test_tuples_of_numbers(self):
        for numbers, wanted in (
            ((1,), True), ((3, 2, 1), True), ((1, 1), True), ((0,), False), ((4,), False), ((1, 0), False), ((1, 4), False),
            ((True,), False), ((1, False), False), (("1",), False), ((None,), False), (((1,),), False), ([1], False), (1, False),
            ("1", False), ("", False), (None, False), ({1}, False), ({}, False), ((-1,), False),
        ):
            self.assertIs(is_argument(with_reason(("earlier", "abc", numbers))), wanted, numbers)
            self.assertIs(is_argument(with_reason(("by", numbers))), wanted, numbers)
            if isinstance(numbers, tuple):
                self.assertIs(is_argument(with_reason(("sums", numbers, (1,) * len(numbers)))), wanted, numbers)
            else:
                self.no(with_reason(("sums", numbers, (1,))))
                self.no(with_reason(("sums", numbers, ())))
        self.yes(with_reason(("earlier", "abc", ())))
        self.yes(with_reason(("earlier", "abc", (1, 2, 3) * 5)))
        self.no(with_reason(("by", ())))
        self.no(with_reason(("by", (1, 2, 3, 1))))
        self.no(with_reason(("by", 1, 2)))

    def test_times(self):
        for times, wanted in (
            ((0, 0), True), ((1, 10 ** 12 - 1), True), ((1,), False), ((), False), ((1, 1, 1), False), ((1, -1), False),
            ((1, True), False), ((False, 1), False), ((1, "1"), False), ((1, None), False), ([1, 1], False), (1, False), (None, False),
            (((1,), (1,)), False), ("11", False),
        ):
            self.assertIs(is_argument(with_reason(("sums", (1, 2), times))), wanted, times)
        self.no(with_reason(("sums", (), (1,))))
        self.no(with_reason(("sums", (1,), ())))
        self.no(with_reason(("sums", (1,))))
        self.no(with_reason(("sums", (1,), (1,), (1,))))

    def test_names_of_earlier_arguments(self):
        for name, wanted in (
            ("a", True), ("x", True), ("some", True), ("abcdefgh", True), ("", False), ("abcdefghi", False), ("A", False), ("aB", False),
            ("a1", False), ("a b", False), ("a\n", False), (1, False), (None, False), (("a",), False), (b"a", False), ("\u00e9", False),
        ):
            self.assertIs(is_argument(with_reason(("earlier", name, (1,)))), wanted, name)

    def test_other_words(self):
        for word in ("", "Given", "give", "is", "every", "if", "false", "itself ", "sum", "assumed", "if", "and", "or", "least"):
            self.no(with_reason((word,)))
            self.no(with_reason((word, 1)))
            self.no(with_reason((word, 1, 1)))
        for thing in ODD_THINGS + ODD_TEXTS:
            self.no(with_reason(thing))
            self.no(with_reason((thing,)))
            self.no(with_reason((thing, 1)))

    def test_numbers_go_to_the_last_line(self):
        lines = tuple((0, ANN, ("again", 60)) for _ in range(60))
        self.yes((FULL, (), lines))
        self.no((FULL, (), lines[1:]))

    def test_it_is_not_asked_whether_they_fit(self):
        for reason in RIGHT_REASONS:
            self.yes((FULL, (), (GIVEN, (1, ANN, ("supposed",)), (1, BOB, reason), GIVEN)))
        self.yes((FULL, (), ((0, ANN, ("again", 1)),)))


class WhatIsReadOff(unittest.TestCase):
    def test_names_at(self):
        wanted = [(), (), (), ("Zed",), ("Zed", "Zoe"), ("Zed", "Zoe"), ("Zed",), ("Max",), (), ()]
        for k, names in enumerate(wanted, 1):
            self.assertEqual(names_at(ARGUMENT, k), ("Ann", "Bob") + names, k)
        lines = ((1, ANN, ("any", "Zed")), (2, ANN, ("called", "Abe", 1)), (3, ANN, ("supposed",)), (0, ANN, ("clearly",)))
        self.assertEqual(names_at((FULL, (), lines), 3), ("Ann", "Bob", "Zed", "Abe"))
        self.assertEqual(names_at((((), (), ()), (), ((0, ("false",), ("given",)),)), 1), ())

    def test_supposed_at(self):
        zed, zoe, again = ("same", "Zed", "Zed"), ("is", "Zoe", "dog"), ("same", "Max", "Max")
        wanted = [(), (), (BOB,), (BOB, zed), (BOB, zed, zoe), (BOB, zed, zoe), (BOB, zed), (BOB, again), (BOB,), ()]
        for k, forms in enumerate(wanted, 1):
            self.assertEqual(supposed_at(ARGUMENT, k), forms, k)

    def test_shown(self):
        self.assertEqual(shown(ARGUMENT), ((ANN, ("some", "x", ("is", "x", "dog"))), LINES[-1][1]))
        self.assertEqual(shown((FULL, (), (GIVEN,))), ((ANN,), ANN))
        self.assertEqual(shown((FULL, (), ((0, ANN, ("clearly",)),))), ((), ANN))
        lines = (GIVEN, (0, BOB, ("again", 1)), (0, BOB, ("given",)), GIVEN, (0, ("false",), ("clearly",)))
        self.assertEqual(shown((FULL, (), lines)), ((ANN, BOB, ANN), ("false",)))

    def test_they_are_tuples(self):
        for k in range(1, 11):
            self.assertIsInstance(names_at(ARGUMENT, k), tuple)
            self.assertIsInstance(supposed_at(ARGUMENT, k), tuple)
        self.assertIsInstance(shown(ARGUMENT), tuple)
        self.assertIsInstance(shown(ARGUMENT)[0], tuple)

    def test_nothing_is_changed(self):
        before = repr(ARGUMENT)
        is_argument(ARGUMENT)
        names_at(ARGUMENT, 5)
        supposed_at(ARGUMENT, 5)
        shown(ARGUMENT)
        self.assertEqual(repr(ARGUMENT), before)


if __name__ == "__main__":
    unittest.main()

"""[14], [16], [18]: the reasons that open boxes, and those that lean on boxes that are done."""

import itertools
import random
import unittest

from linecourt.arguments import is_argument
from linecourt.boxrules import boxed
from tests.making import FALSE, SMALL, clearly, given, supposed
from tests.slowcourt import slow_boxed

VOCABULARY = (("Ann", "Bob"), ("cat", "dog"), ("sees",))
CAT, DOG, BOB = ("is", "Ann", "cat"), ("is", "Ann", "dog"), ("is", "Bob", "cat")
LOOK = ("does", "sees", "x", "x")
SOME_CAT = ("some", "x", ("is", "x", "cat"))
ZED, ZED_CAT = ("same", "Zed", "Zed"), ("is", "Zed", "cat")
OR = ("or", CAT, DOG)


class Asking(unittest.TestCase):
    def told(self, lines, k):
        argument = (VOCABULARY, (), tuple(lines) + ((clearly(0, CAT),) if lines[-1][0] else ()))
        self.assertTrue(is_argument(argument), lines)
        told = boxed(argument, k)
        self.assertIs(told, slow_boxed(argument, k), (lines, k))
        return told

    def yes(self, *lines, k=None):
        """The last line is right, or line k."""
        self.assertIs(self.told(lines, k or len(lines)), True, lines)

    def no(self, *lines, k=None):
        self.assertIs(self.told(lines, k or len(lines)), False, lines)


class Openers(Asking):
    def test_supposed(self):
        self.yes(supposed(1, CAT))
        self.yes(given(CAT), supposed(1, FALSE), supposed(2, OR))

    def test_any(self):
        self.yes((1, ZED, ("any", "Zed")))
        self.yes(supposed(1, CAT), (2, ZED, ("any", "Zed")))
        for form in (CAT, ("same", "Ann", "Ann"), ("same", "Zed", "Ann"), ("same", "Ann", "Zed"), ("not", ZED), FALSE, ZED_CAT,
                     ("does", "sees", "Zed", "Zed"), ("every", "x", ("same", "x", "x"))):
            self.no((1, form, ("any", "Zed")))

    def test_called(self):
        self.yes(given(SOME_CAT), (1, ZED_CAT, ("called", "Zed", 1)))
        self.yes(given(CAT), given(SOME_CAT), supposed(1, DOG), (2, ZED_CAT, ("called", "Zed", 2)))
        self.yes(supposed(1, SOME_CAT), (2, ZED_CAT, ("called", "Zed", 1)))
        self.yes(given(("some", "x", LOOK)), (1, ("does", "sees", "Zed", "Zed"), ("called", "Zed", 1)))
        self.yes(given(("some", "x", CAT)), (1, CAT, ("called", "Zed", 1)))

    def test_called_otherwise(self):
        for form in (CAT, ("is", "Zed", "dog"), ("not", ZED_CAT), SOME_CAT, FALSE, ZED):
            self.no(given(SOME_CAT), (1, form, ("called", "Zed", 1)))
        for form in (("every", "x", ("is", "x", "cat")), CAT, ("not", SOME_CAT), ("some", "x", ("is", "x", "dog")), FALSE):
            self.no(given(form), (1, ZED_CAT, ("called", "Zed", 1)))
        for one, other in (("Zed", "Ann"), ("Ann", "Zed"), ("Ann", "Ann")):
            self.no(given(("some", "x", LOOK)), (1, ("does", "sees", one, other), ("called", "Zed", 1)))

    def test_called_by_a_line_to_which_it_is_not_open(self):
        self.no(supposed(1, SOME_CAT), clearly(1, CAT), (1, ZED_CAT, ("called", "Zed", 1)))
        self.no(supposed(1, SOME_CAT), clearly(0, CAT), (1, ZED_CAT, ("called", "Zed", 1)))
        self.no((1, ZED_CAT, ("called", "Zed", 2)), clearly(0, SOME_CAT), k=1)
        self.no((1, SOME_CAT, ("called", "Zed", 1)))

    def test_other_reasons(self):
        self.assertIs(boxed((VOCABULARY, (), (given(CAT),)), 1), False)
        self.assertIs(boxed((VOCABULARY, (), (given(CAT), (0, CAT, ("again", 1)))), 2), False)
        self.assertIs(boxed((VOCABULARY, (), (clearly(0, CAT),)), 1), False)


# For each word: what opens the box, what the box tells, the form that follows, and forms that don't.
CLOSED = {
    "soif": (CAT, ("supposed",), DOG, ("if", CAT, DOG), (
        ("if", DOG, CAT), ("and", CAT, DOG), ("or", CAT, DOG), ("if", CAT, CAT), ("if", DOG, DOG), DOG, CAT, ("not", CAT), FALSE)),
    "not": (CAT, ("supposed",), FALSE, ("not", CAT), (
        CAT, FALSE, ("not", DOG), ("not", ("not", CAT)), ("if", CAT, FALSE), ("not", FALSE))),
    "contrary": (("not", CAT), ("supposed",), FALSE, CAT, (
        ("not", CAT), DOG, FALSE, ("not", ("not", CAT)), ("not", ("not", ("not", CAT))))),
    "forany": (ZED, ("any", "Zed"), ("does", "sees", "Zed", "Zed"), ("every", "x", LOOK), (
        ("some", "x", LOOK), ("every", "x", ("does", "sees", "x", "Ann")), ("every", "x", ("is", "x", "cat")), LOOK[:2] + ("Ann", "Ann"),
        ("every", "x", ("not", LOOK)), ("not", ("every", "x", LOOK)), FALSE)),
    "forsome": (ZED_CAT, ("called", "Zed", 1), DOG, DOG, (CAT, ("not", DOG), SOME_CAT, ("some", "x", DOG), FALSE)),
}


class Boxes(Asking):
    def each(self):
        for word, (form, reason, told, wanted, others) in CLOSED.items():
            yield word, (lambda level, form=form, reason=reason: (level, form, reason)), told, wanted, others

    def test_right(self):
        for word, opener, told, wanted, _ in self.each():
            self.yes(given(SOME_CAT), opener(1), clearly(1, told), (0, wanted, (word, 2)))
            self.yes(given(SOME_CAT), opener(1), clearly(1, CAT), clearly(1, told), (0, wanted, (word, 2)))
            self.yes(given(SOME_CAT), supposed(1, BOB), opener(2), clearly(2, told), (1, wanted, (word, 3)))
            self.yes(given(SOME_CAT), opener(1), supposed(2, BOB), clearly(2, BOB), clearly(1, told), (0, wanted, (word, 2)))

    def test_behind_other_lines(self):
        for word, opener, told, wanted, _ in self.each():
            start = (given(SOME_CAT), opener(1), clearly(1, told))
            line = (0, wanted, (word, 2))
            self.yes(*start, clearly(0, CAT), line)
            self.yes(*start, supposed(1, BOB), line)
            self.yes(*start, supposed(1, BOB), clearly(1, CAT), clearly(0, CAT), line)
            self.yes(*start, supposed(1, BOB), (1, wanted, (word, 2)), clearly(0, BOB), line)
            self.yes(*start, line, line)

    def test_another_form(self):
        for word, opener, told, wanted, others in self.each():
            for form in others:
                self.no(given(SOME_CAT), opener(1), clearly(1, told), (0, form, (word, 2)))

    def test_another_form_told(self):
        for word, opener, told, wanted, _ in self.each():
            for form in (BOB, ("not", told), SOME_CAT):
                self.no(given(SOME_CAT), opener(1), clearly(1, told), clearly(1, form), (0, wanted, (word, 2)))
                self.no(given(SOME_CAT), opener(1), clearly(1, form), (0, wanted, (word, 2)))

    def test_an_opener_of_another_word(self):
        for word, own, form, told, wanted in (
            ("soif", ("supposed",), CAT, DOG, ("if", CAT, DOG)), ("not", ("supposed",), CAT, FALSE, ("not", CAT)),
            ("contrary", ("supposed",), ("not", CAT), FALSE, CAT), ("forsome", ("called", "Zed", 1), CAT, DOG, DOG),
            ("forany", ("any", "Zed"), CAT, DOG, ("every", "x", DOG)),
        ):
            for reason in (("supposed",), ("any", "Zed"), ("called", "Zed", 1)):
                told_so = self.told((given(SOME_CAT), (1, form, reason), clearly(1, told), (0, wanted, (word, 2))), 4)
                self.assertIs(told_so, reason == own)

    def test_what_is_no_opener(self):
        for word, opener, told, wanted, _ in self.each():
            self.no(given(SOME_CAT), given(CAT), (0, wanted, (word, 2)))
            self.no(given(SOME_CAT), opener(1), clearly(1, told), (0, wanted, (word, 3)))
            self.no(given(SOME_CAT), opener(1), clearly(1, told), (0, wanted, (word, 1)))
            self.no(given(SOME_CAT), opener(1), clearly(1, told), (0, wanted, (word, 4)))

    def test_a_box_one_level_too_deep(self):
        for word, opener, told, wanted, _ in self.each():
            self.no(given(SOME_CAT), supposed(1, BOB), opener(2), clearly(2, told), (0, wanted, (word, 3)))
            self.no(given(SOME_CAT), supposed(1, BOB), opener(2), clearly(2, told), clearly(1, CAT), (0, wanted, (word, 3)))
            self.no(given(SOME_CAT), opener(1), supposed(2, BOB), clearly(2, told), (0, wanted, (word, 2)))

    def test_a_box_that_is_not_done(self):
        for word, opener, told, wanted, _ in self.each():
            within = given(SOME_CAT), opener(1), clearly(1, told), (1, wanted, (word, 2))
            self.no(*within)
            self.no(given(SOME_CAT), opener(1), clearly(1, told), supposed(2, BOB), (1, wanted, (word, 2)))
            # Behind the end of the box around it.
            self.no(given(SOME_CAT), supposed(1, BOB), opener(2), clearly(2, told), clearly(0, CAT), (0, wanted, (word, 3)))
            self.no(
                given(SOME_CAT), supposed(1, BOB), opener(2), clearly(2, told), supposed(1, BOB), (1, wanted, (word, 3)))
            # Ahead of the box.
            self.no(given(SOME_CAT), (0, wanted, (word, 3)), opener(1), clearly(1, told), clearly(0, CAT), k=2)

    def test_the_box_ends_in_a_deeper_line(self):
        for word, opener, told, wanted, _ in self.each():
            self.no(given(SOME_CAT), opener(1), clearly(1, told), supposed(2, told), (0, wanted, (word, 2)))

    def test_the_opener_alone(self):
        self.yes(supposed(1, CAT), (0, ("if", CAT, CAT), ("soif", 1)))
        self.yes(supposed(1, FALSE), (0, ("not", FALSE), ("not", 1)))
        self.yes((1, ZED, ("any", "Zed")), (0, ("every", "y", ("same", "y", "y")), ("forany", 1)))
        self.yes(given(("some", "x", CAT)), (1, CAT, ("called", "Zed", 1)), (0, CAT, ("forsome", 2)))
        self.no(supposed(1, ("not", FALSE)), (0, FALSE, ("contrary", 1)))

    def test_forany_and_letters(self):
        start = ((1, ZED, ("any", "Zed")), clearly(1, ("every", "x", ("does", "sees", "Zed", "x"))))
        self.yes(*start, (0, ("every", "y", ("every", "x", ("does", "sees", "y", "x"))), ("forany", 1)))
        self.no(*start, (0, ("every", "x", ("every", "x", ("does", "sees", "x", "x"))), ("forany", 1)))
        self.yes((1, ZED, ("any", "Zed")), clearly(1, CAT), (0, ("every", "z9", CAT), ("forany", 1)))


class Cases(Asking):
    START = (given(OR), supposed(1, CAT), clearly(1, BOB), supposed(1, DOG), clearly(1, BOB))

    def test_two_boxes(self):
        self.yes(*self.START, (0, BOB, ("cases", 1, 2, 4)))
        self.yes(*self.START, clearly(0, CAT), (0, BOB, ("cases", 1, 2, 4)))
        self.yes(given(OR), supposed(1, DOG), clearly(1, BOB), supposed(1, CAT), clearly(1, BOB), (0, BOB, ("cases", 1, 4, 2)))
        self.yes(given(OR), supposed(1, CAT), clearly(1, BOB), clearly(0, CAT), supposed(1, DOG), clearly(1, BOB), (0, BOB, ("cases", 1, 2, 5)))

    def test_one_box_told_twice(self):
        start = (given(("or", CAT, CAT)), supposed(1, CAT), clearly(1, BOB))
        self.yes(*start, (0, BOB, ("cases", 1, 2, 2)))
        self.no(given(OR), *start[1:], (0, BOB, ("cases", 1, 2, 2)))

    def test_sides_exchanged(self):
        self.no(*self.START, (0, BOB, ("cases", 1, 4, 2)))
        self.no(given(("or", DOG, CAT)), *self.START[1:], (0, BOB, ("cases", 1, 2, 4)))

    def test_numbers_exchanged(self):
        for numbers in itertools.product((1, 2, 3, 4, 5, 6), repeat=3):
            told = self.told(self.START + ((0, BOB, ("cases",) + numbers),), 6)
            self.assertIs(told, numbers == (1, 2, 4))

    def test_the_or(self):
        for form in (("and", CAT, DOG), ("if", CAT, DOG), ("or", CAT, BOB), ("or", BOB, DOG), ("not", OR), CAT, FALSE):
            self.no(given(form), *self.START[1:], (0, BOB, ("cases", 1, 2, 4)))
        self.no(
            supposed(1, OR), clearly(0, BOB), supposed(1, CAT), clearly(1, BOB), supposed(1, DOG), clearly(1, BOB), (0, BOB, ("cases", 1, 3, 5)))
        self.no(supposed(1, CAT), clearly(1, BOB), supposed(1, DOG), clearly(1, BOB), (0, BOB, ("cases", 6, 1, 3)), clearly(0, OR), k=5)

    def test_each_box(self):
        line = (0, BOB, ("cases", 1, 2, 4))
        self.no(given(OR), supposed(1, CAT), clearly(1, DOG), supposed(1, DOG), clearly(1, BOB), line)
        self.no(given(OR), supposed(1, CAT), clearly(1, BOB), supposed(1, DOG), clearly(1, DOG), line)
        self.no(*self.START, (0, DOG, ("cases", 1, 2, 4)))
        self.no(given(OR), supposed(1, CAT), clearly(1, BOB), supposed(2, DOG), clearly(2, BOB), line)
        self.no(given(OR), (1, CAT, ("called", "Zed", 1)), clearly(1, BOB), supposed(1, DOG), clearly(1, BOB), line)
        self.no(given(OR), supposed(1, CAT), clearly(1, BOB), (1, DOG, ("any", "Zed")), clearly(1, BOB), line)
        self.no(given(OR), supposed(1, CAT), clearly(1, BOB), supposed(1, DOG), clearly(1, BOB), (1, BOB, ("cases", 1, 2, 4)))
        self.no(given(OR), supposed(1, CAT), supposed(2, BOB), supposed(1, DOG), clearly(1, BOB), line)


def random_lines(chance):
    """Lines in which boxes are opened and leant on, right ones and others."""
    forms = (CAT, DOG, FALSE, ("not", CAT), OR, ("or", CAT, CAT), ("if", CAT, DOG), ("if", CAT, CAT), ("not", FALSE))
    lines = [given(chance.choice((OR, ("or", CAT, CAT))))]
    for at in range(2, 11):
        ahead = lines[-1][0]
        if chance.random() < 0.4:
            lines.append(supposed(chance.randrange(max(1, ahead), ahead + 2), chance.choice(forms)))
            continue
        level = chance.randrange(max(0, ahead - 1), ahead + 1)
        box = [i for i, line in enumerate(lines, 1) if line[0] == level + 1 and line[2] == ("supposed",)]
        i, n = (chance.choice(box or [1]) for _ in range(2))
        told = lines[-1][1]
        word, form = chance.choice((
            ("again", chance.choice((CAT, FALSE))), ("soif", ("if", lines[i - 1][1], told)), ("not", ("not", lines[i - 1][1])), ("contrary", CAT), ("cases", told),
            ("cases", CAT), ("contrary", CAT), ("forsome", told), ("again", chance.choice(forms))))
        lines.append((level, form, (word, 1, i, n) if word == "cases" else (word, i)))
    return tuple(lines) + (clearly(0, CAT),)


class ByChance(unittest.TestCase):
    def test_against_the_slow_court(self):
        chance = random.Random(18)
        right = {}
        for _ in range(2500):
            argument = (SMALL, (), random_lines(chance))
            self.assertTrue(is_argument(argument))
            for k, (_, _, reason) in enumerate(argument[2], 1):
                if reason[0] not in ("given", "again", "clearly"):
                    told = boxed(argument, k)
                    self.assertIs(told, slow_boxed(argument, k), (argument, k))
                    right.setdefault(reason[0], set()).add(told)
        self.assertEqual(right, {
            "supposed": {True}, "soif": {True, False}, "not": {True, False}, "contrary": {True, False}, "cases": {True, False},
            "forsome": {False}})


if __name__ == "__main__":
    unittest.main()

"""[16] to [23], [35]: which lines are right, and which arguments are let by."""

import random
import unittest

from linecourt.arguments import is_argument
from linecourt.checker import is_right, lets_by
from tests.arguing import MEANINGS, bent_argument, random_argument, unsound_lines
from tests.making import FALSE, SMALL, clearly, given, supposed, total
from tests.samples import ODD_TEXTS, ODD_THINGS, nest
from tests.slowcourt import slow_right

CAT, DOG, BOB = ("is", "Ann", "cat"), ("is", "Ann", "dog"), ("is", "Bob", "cat")
LOOK = ("does", "sees", "x", "Ann")
ALL_CATS, SOME_CAT = ("every", "x", ("is", "x", "cat")), ("some", "x", ("is", "x", "cat"))
CATS, DOGS = total(0, cat=1), total(0, dog=1)
ZED, ZED_CAT = ("same", "Zed", "Zed"), ("is", "Zed", "cat")


def with_lines(lines, meanings=()):
    """An argument, ended by a line of level 0 where it needs one."""
    lines = tuple(lines)
    return (SMALL, meanings, lines + ((clearly(0, CAT),) if lines[-1][0] else ()))


class Asking(unittest.TestCase):
    meanings = ()

    def told(self, lines, k=None, earlier=None):
        argument = with_lines(lines, self.meanings)
        self.assertTrue(is_argument(argument), lines)
        told = is_right(argument, k or len(lines), earlier)
        self.assertIs(told, slow_right(argument, k or len(lines), earlier or ()), lines)
        return told

    def yes(self, *lines, k=None):
        self.assertIs(self.told(lines, k), True, lines)

    def no(self, *lines, k=None):
        self.assertIs(self.told(lines, k), False, lines)


def row(word, form, *forms, rest=()):
    return (word, form, forms, rest)


# A form that follows by each plain word, the forms that it follows from, and what else the reason has.
PLAIN = (
    row("again", CAT, CAT), row("both", ("and", CAT, DOG), CAT, DOG), row("left", CAT, ("and", CAT, DOG)),
    row("right", DOG, ("and", CAT, DOG)), row("orleft", ("or", CAT, DOG), CAT), row("orright", ("or", DOG, CAT), CAT),
    row("then", DOG, ("if", CAT, DOG), CAT), row("absurd", FALSE, CAT, ("not", CAT)), row("nothing", DOG, FALSE),
    row("at", CAT, ALL_CATS, rest=("Ann",)), row("such", SOME_CAT, CAT, rest=("Ann",)),
    row("put", BOB, ("same", "Ann", "Bob"), CAT), row("meaning", CAT, CAT),
    row("asmany", ("least", DOGS, CATS), ("every", "x", ("if", ("is", "x", "cat"), ("is", "x", "dog")))),
    row("one", ("least", CATS, total(1)), CAT), row("two", ("least", CATS, total(2)), CAT, BOB, ("not", ("same", "Ann", "Bob"))),
    row("someof", SOME_CAT, ("least", CATS, total(1))), row("none", ("least", total(0), CATS), ("every", "x", ("not", ("is", "x", "cat")))),
    row("nomore", ("every", "x", ("not", ("is", "x", "cat"))), ("least", total(0), CATS)),
    row("apart", ("least", DOGS, total(0, cat=2)), ("every", "x", ("if", ("is", "x", "cat"), ("not", ("is", "x", "cat")))),
        ("every", "x", ("if", ("or", ("is", "x", "cat"), ("is", "x", "cat")), ("is", "x", "dog")))),
    row("cover", ("least", total(0, cat=1, dog=1), CATS),
        ("every", "x", ("if", ("is", "x", "cat"), ("or", ("is", "x", "dog"), ("is", "x", "cat"))))),
    row("turned", ("not", ("least", DOGS, total(1, cat=1))), ("least", CATS, DOGS)),
)


def numbered(word, numbers, rest):
    return (word,) + tuple(numbers) + rest


class PlainLines(Asking):
    def test_right(self):
        for word, form, forms, rest in PLAIN:
            lines = [given(one) for one in forms]
            self.yes(*lines, (0, form, numbered(word, range(1, len(forms) + 1), rest)))
            self.yes(given(BOB), *lines, supposed(1, BOB), (1, form, numbered(word, range(2, len(forms) + 2), rest)))

    def test_another_form(self):
        for word, form, forms, rest in PLAIN:
            if word == "nothing":
                continue
            lines = [given(one) for one in forms]
            for other in (("is", "Bob", "dog"), ("not", form), ("least", total(9), CATS)):
                self.no(*lines, (0, other, numbered(word, range(1, len(forms) + 1), rest)))

    def test_numbers_turned_about(self):
        for word, form, forms, rest in PLAIN:
            if len(forms) > 1:
                lines = [given(one) for one in forms]
                turned = list(range(2, len(forms) + 1)) + [1]
                self.no(*lines, (0, form, numbered(word, turned, rest)))

    def test_a_line_to_which_it_is_not_open(self):
        for word, form, forms, rest in PLAIN:
            for at in range(len(forms)):
                # The one at this place is supposed in a box, which the line behind it ends.
                lines = [given(one) for one in forms[:at]] + [given(one) for one in forms[at + 1:]]
                numbers = list(range(1, at + 1)) + [len(forms)] + list(range(at + 1, len(forms)))
                start = lines + [supposed(1, forms[at])]
                self.yes(*start, (1, form, numbered(word, numbers, rest)))
                self.no(*start, (0, form, numbered(word, numbers, rest)))
                self.no(*start, supposed(1, BOB), (1, form, numbered(word, numbers, rest)))
                self.no(*start, clearly(1, CAT), clearly(0, CAT), supposed(1, BOB), (1, form, numbered(word, numbers, rest)))

    def test_a_line_behind_and_the_line_itself(self):
        for word, form, forms, rest in PLAIN:
            for at in range(len(forms)):
                lines = [given(one) for one in forms[:at]] + [given(one) for one in forms[at + 1:]]
                numbers = list(range(1, at + 1)) + [len(forms) + 1] + list(range(at + 1, len(forms)))
                self.no(*lines, (0, form, numbered(word, numbers, rest)), clearly(0, forms[at]), k=len(forms))
        self.no((0, CAT, ("again", 1)))
        self.no((0, CAT, ("meaning", 1)))
        self.no((0, ("same", "Ann", "Ann"), ("put", 1, 1)))
        self.no((0, FALSE, ("nothing", 1)))
        self.no((0, ("least", CATS, CATS), ("sums", (1,), (1,))))

    def test_names_in_scope(self):
        for name in ("Ann", "Bob"):
            self.yes(given(ALL_CATS), (0, ("is", name, "cat"), ("at", 1, name)))
            self.yes(given(("every", "x", CAT)), (0, CAT, ("at", 1, name)))
            self.yes(given(CAT), (0, ("some", "x", CAT), ("such", 1, name)))
        for name in ("Zed", "Cat", "A"):
            self.no(given(("every", "x", CAT)), (0, CAT, ("at", 1, name)))
            self.no(given(CAT), (0, ("some", "x", CAT), ("such", 1, name)))
        opened = (given(("every", "x", CAT)), (1, ZED, ("any", "Zed")))
        self.yes(*opened, (1, CAT, ("at", 1, "Zed")))
        self.yes(*opened, supposed(2, CAT), (2, CAT, ("at", 1, "Zed")))
        self.yes(*opened, (1, ("some", "y", ("same", "y", "y")), ("such", 2, "Zed")))
        self.no(*opened, (0, CAT, ("at", 1, "Zed")))
        self.no(*opened, (1, CAT, ("again", 1)), (1, ("same", "Yon", "Yon"), ("any", "Yon")), (1, CAT, ("at", 1, "Zed")))
        self.no(*opened, (0, CAT, ("at", 1, "Ann")), (0, ("some", "x", CAT), ("such", 3, "Zed")))
        # A name that comes in only behind the line.
        self.no(given(("every", "x", CAT)), (0, CAT, ("at", 1, "Zed")), (1, ZED, ("any", "Zed")), clearly(0, CAT), k=2)

    def test_itself(self):
        self.yes((0, ("same", "Bob", "Bob"), ("itself",)))
        self.no((0, ("same", "Bob", "Ann"), ("itself",)))
        self.yes((1, ZED, ("any", "Zed")), (1, ZED, ("itself",)))


class OtherLines(Asking):
    def test_given(self):
        self.yes(given(CAT))
        self.yes(given(CAT), given(FALSE), given(CAT))
        self.yes(given(CAT), given(CAT), given(CAT), k=2)
        self.no((0, ("same", "Ann", "Ann"), ("itself",)), given(CAT))
        self.no(given(CAT), (0, CAT, ("again", 1)), given(CAT))
        self.no(given(CAT), supposed(1, CAT), given(CAT))
        self.no(supposed(1, CAT), (1, CAT, ("given",)))
        self.no(given(CAT), supposed(1, CAT), (1, CAT, ("given",)))
        self.no(given(CAT), clearly(0, CAT), given(DOG))
        # The first is given, whatever comes behind it.
        self.yes(given(CAT), clearly(0, CAT), given(DOG), k=1)

    def test_by_and_clearly(self):
        self.no(given(CAT), clearly(0, CAT))
        self.no(given(CAT), (0, CAT, ("by", (1,))))
        self.no(given(CAT), (0, ("and", CAT, CAT), ("by", (1, 1))))
        self.no(given(FALSE), given(FALSE), given(FALSE), (0, CAT, ("by", (1, 2, 3))))

    def test_sums(self):
        one, other = ("least", CATS, DOGS), ("least", DOGS, total(2))
        self.yes(given(one), given(other), (0, ("least", CATS, total(2)), ("sums", (1, 2), (1, 1))))
        self.yes(given(other), given(one), (0, ("least", CATS, total(2)), ("sums", (1, 2), (1, 1))))
        self.yes(given(one), (0, ("least", total(5), total(4)), ("sums", (), ())))
        self.yes(given(one), (0, ("least", total(0, cat=3), total(0, dog=3)), ("sums", (1, 1), (1, 2))))
        self.no(given(one), given(other), (0, ("least", CATS, total(3)), ("sums", (1, 2), (1, 1))))
        self.no(given(one), given(other), (0, ("least", CATS, total(2)), ("sums", (1, 2), (1, 2))))
        self.no(given(one), (0, ("least", CATS, DOGS), ("sums", (2,), (1,))))
        self.no(supposed(1, one), (0, one, ("sums", (1,), (1,))))
        self.no(given(CAT), (0, one, ("sums", (1,), (0,))))
        self.no(given(one), (0, CAT, ("sums", (1,), (1,))))

    def test_boxes(self):
        self.yes(given(SOME_CAT), (1, ZED_CAT, ("called", "Zed", 1)), (1, CAT, ("clearly",)), (0, CAT, ("forsome", 2)))
        self.no(given(SOME_CAT), (1, ZED_CAT, ("called", "Zed", 1)), (1, CAT, ("clearly",)), (0, DOG, ("forsome", 2)))
        self.yes(supposed(1, CAT), (0, ("if", CAT, CAT), ("soif", 1)))
        self.no(supposed(1, CAT), (0, ("if", CAT, DOG), ("soif", 1)))
        self.yes((1, ZED, ("any", "Zed")), k=1)
        self.no((1, CAT, ("any", "Zed")), k=1)


class MeaningLines(Asking):
    meanings = MEANINGS
    PET = ("or", CAT, DOG)
    SEER = ("some", "z7", ("and", ("does", "sees", "Ann", "z7"), ("or", ("is", "z7", "cat"), ("is", "z7", "dog"))))

    def test_alike(self):
        for one, other in (
            (("is", "Ann", "pet"), self.PET), (("is", "Ann", "seer"), self.SEER), (self.PET, self.PET), (CAT, CAT),
            (("not", ("is", "Ann", "pet")), ("not", self.PET)), (("and", self.PET, ("is", "Ann", "pet")), ("and", ("is", "Ann", "pet"), self.PET)),
            (("every", "x", ("is", "x", "pet")), ("every", "x", ("or", ("is", "x", "cat"), ("is", "x", "dog")))),
            (("is", "Ann", "wise"), ("if", self.PET, ("and", ("is", "Ann", "seer"), ("is", "Bob", "pet")))),
        ):
            self.yes(given(one), (0, other, ("meaning", 1)))
            self.yes(given(other), (0, one, ("meaning", 1)))

    def test_unlike(self):
        for one, other in (
            (("is", "Ann", "pet"), ("or", DOG, CAT)), (("is", "Ann", "pet"), ("is", "Bob", "pet")), (("is", "Ann", "pet"), CAT),
            (("is", "Ann", "pet"), ("is", "Ann", "seer")), (CAT, DOG), (("not", ("is", "Ann", "pet")), self.PET),
            (("every", "x", ("is", "x", "pet")), ("every", "y", ("is", "y", "pet"))),
        ):
            self.no(given(one), (0, other, ("meaning", 1)))
            self.no(given(other), (0, one, ("meaning", 1)))

    def test_other_reasons_know_no_meanings(self):
        self.no(given(("is", "Ann", "pet")), (0, self.PET, ("again", 1)))
        self.no(given(("if", self.PET, DOG)), given(("is", "Ann", "pet")), (0, DOG, ("then", 1, 2)))
        self.no(given(("is", "Ann", "pet")), (0, CAT, ("left", 1)))


# Shows CAT and DOG from both.
BOTH = (SMALL, (), (given(CAT), given(DOG), (0, ("and", CAT, DOG), ("both", 1, 2))))
# Leans on it.
FIRST = (SMALL, (), (given(CAT), given(DOG), (0, ("and", CAT, DOG), ("earlier", "joined", (1, 2))), (0, CAT, ("left", 3))))
THIRD = (SMALL, (), (given(CAT), given(DOG), (0, CAT, ("earlier", "first", (1, 2))), (0, ("or", CAT, BOB), ("orleft", 3))))
NOT_LET_BY = (SMALL, (), (given(CAT), (0, DOG, ("again", 1))))
UNFILLED = (SMALL, (), (given(CAT), (0, CAT, ("by", (1,)))))
NONE_GIVEN = (SMALL, (), ((0, ("same", "Ann", "Ann"), ("itself",)),))


class Earlier(unittest.TestCase):
    EARLIER = (("joined", BOTH), ("first", FIRST), ("third", THIRD))

    def told(self, lines, earlier, meanings=()):
        argument = (SMALL, meanings, tuple(lines))
        told = is_right(argument, len(lines), earlier)
        self.assertIn(told, (True, False))
        if all(is_right(argument, k, earlier) for k in range(1, len(lines))):
            self.assertIs(lets_by(argument, earlier), told)
        return told

    def by(self, name, ks, form=("and", CAT, DOG), earlier=EARLIER, lines=(given(CAT), given(DOG)), meanings=()):
        return self.told(lines + ((0, form, ("earlier", name, ks)),), earlier, meanings)

    def test_the_forms_in_order(self):
        self.assertIs(self.by("joined", (1, 2)), True)
        self.assertIs(self.by("joined", (2, 1)), False)
        self.assertIs(self.by("joined", (1,)), False)
        self.assertIs(self.by("joined", ()), False)
        self.assertIs(self.by("joined", (1, 2, 2)), False)
        self.assertIs(self.by("joined", (1, 1)), False)
        self.assertIs(self.by("joined", (2, 3), lines=(given(BOB), given(CAT), given(DOG))), True)
        self.assertIs(self.by("joined", (1, 2), ("and", DOG, CAT)), False)
        self.assertIs(self.by("joined", (1, 2), CAT), False)

    def test_no_givens(self):
        self.assertIs(self.by("none", (), ("same", "Ann", "Ann"), (("none", NONE_GIVEN),), ()), True)
        self.assertIs(self.by("none", (1,), ("same", "Ann", "Ann"), (("none", NONE_GIVEN),)), False)
        self.assertIs(self.by("none", (), CAT, (("none", NONE_GIVEN),), ()), False)

    def test_lines_to_which_it_is_not_open(self):
        lines = (given(CAT), supposed(1, DOG))
        argument = (SMALL, (), lines + ((1, ("and", CAT, DOG), ("earlier", "joined", (1, 2))), clearly(0, CAT)))
        self.assertIs(is_right(argument, 3, self.EARLIER), True)
        self.assertIs(self.by("joined", (1, 2), lines=lines), False)
        self.assertIs(self.by("joined", (1, 3)), False)

    def test_names_that_there_are_not(self):
        self.assertIs(self.by("other", (1, 2)), False)
        self.assertIs(self.by("join", (1, 2)), False)
        self.assertIs(self.by("joined", (1, 2), earlier=None), False)
        self.assertIs(self.by("joined", (1, 2), earlier=()), False)
        argument = (SMALL, (), (given(CAT), given(DOG), (0, ("and", CAT, DOG), ("earlier", "joined", (1, 2)))))
        self.assertIs(lets_by(argument), False)
        self.assertIs(is_right(argument, 3), False)

    def test_another_vocabulary_or_meanings(self):
        for vocabulary in ((("Ann",), SMALL[1], SMALL[2]), (SMALL[0], SMALL[1], ()), (SMALL[0], ("cat", "cow", "dog"), SMALL[2])):
            other = (vocabulary,) + BOTH[1:]
            self.assertTrue(lets_by(other))
            self.assertIs(self.by("joined", (1, 2), earlier=(("joined", other),)), False)
        other = (SMALL, MEANINGS, BOTH[2])
        self.assertTrue(lets_by(other))
        self.assertIs(self.by("joined", (1, 2), earlier=(("joined", other),)), False)
        self.assertIs(self.by("joined", (1, 2), meanings=MEANINGS), False)
        self.assertIs(self.by("joined", (1, 2), meanings=MEANINGS, earlier=(("joined", other),)), True)
        self.assertIs(self.by("joined", (1, 2), meanings=MEANINGS[:1], earlier=(("joined", other),)), False)

    def test_not_let_by(self):
        for other in (NOT_LET_BY, UNFILLED, (SMALL, (), ()), None):
            self.assertIs(self.by("other", (1,), DOG, (("other", other),)), False)
            self.assertIs(self.by("other", (1,), CAT, (("other", other),)), False)

    def test_leaning_on_those_ahead(self):
        self.assertIs(self.by("first", (1, 2), CAT), True)
        self.assertIs(self.by("third", (1, 2), ("or", CAT, BOB)), True)
        for turned in ((self.EARLIER[1], self.EARLIER[0]), (self.EARLIER[1],), (("other", BOTH), self.EARLIER[1])):
            self.assertIs(self.by("first", (1, 2), CAT, turned), False)
        for rows in ((0, 2, 1), (1, 0, 2), (1, 2, 0), (2, 1, 0), (2, 0, 1)):
            self.assertIs(self.by("third", (1, 2), ("or", CAT, BOB), tuple(self.EARLIER[at] for at in rows)), False)
        for broken in (NOT_LET_BY, UNFILLED):
            self.assertIs(self.by("third", (1, 2), ("or", CAT, BOB), (("joined", broken),) + self.EARLIER[1:]), False)

    def test_one_that_leans_on_itself(self):
        loop = (SMALL, (), (given(CAT), (0, DOG, ("earlier", "loop", (1,)))))
        self.assertIs(self.by("loop", (1,), DOG, (("loop", loop),)), False)
        other = (SMALL, (), (given(CAT), (0, DOG, ("earlier", "back", (1,)))))
        self.assertIs(self.by("loop", (1,), DOG, (("back", loop), ("loop", other))), False)

    def test_others_that_are_not_let_by_do_no_harm(self):
        rows = (("aa", NOT_LET_BY), ("bb", UNFILLED)) + self.EARLIER
        self.assertIs(self.by("third", (1, 2), ("or", CAT, BOB), rows), True)

    def test_a_long_row_of_arguments(self):
        # Each leans on the one ahead twice: looked at anew each time they would be far too many.
        names = [first + second for first in "abcdefghijkl" for second in "abcdefghijklmnopqrstuvwxyz"]
        rows = [(names[0], (SMALL, (), (given(CAT), (0, CAT, ("again", 1)))))]
        for name in names[1:]:
            ahead = ("earlier", rows[-1][0], (1,))
            rows.append((name, (SMALL, (), (given(CAT), (0, CAT, ahead), (0, CAT, ahead)))))
        self.assertIs(self.by(names[-1], (1,), CAT, tuple(rows), (given(CAT),)), True)
        self.assertIs(self.by(names[-1], (1,), CAT, tuple(rows[1:]), (given(CAT),)), False)


GOOD = (SMALL, (), (
    given(CAT), given(("if", CAT, DOG)), (0, DOG, ("then", 2, 1)), supposed(1, ("not", DOG)), (1, FALSE, ("absurd", 3, 4)),
    (0, ("not", ("not", DOG)), ("not", 4)), (1, ZED, ("any", "Zed")), (1, ("or", ZED, CAT), ("orleft", 7)),
    (0, ("every", "y", ("or", ("same", "y", "y"), CAT)), ("forany", 7)), (0, ("and", DOG, CAT), ("both", 3, 1)),
))


class LetsBy(unittest.TestCase):
    def test_let_by(self):
        for argument in (GOOD, BOTH, NONE_GIVEN, (SMALL, MEANINGS, GOOD[2]), (SMALL, (), (given(FALSE),))):
            self.assertIs(lets_by(argument), True)
            self.assertIs(lets_by(argument, ()), True)
            self.assertIs(lets_by(argument, (("other", NOT_LET_BY),)), True)
            for k in range(1, len(argument[2]) + 1):
                self.assertIs(is_right(argument, k), True)

    def test_one_line_that_is_not_right(self):
        lines = GOOD[2]
        for at, (level, form, reason) in enumerate(lines):
            for line in ((level, form, ("clearly",)), (level, form, ("by", (1,))), (level, ("is", "Bob", "dog"), reason),
                         (level, form, ("again", at + 1))):
                if line[1:] != (("is", "Bob", "dog"), ("given",)) and line[2] != ("supposed",):
                    self.assertIs(lets_by((SMALL, (), lines[:at] + (line,) + lines[at + 1:])), False, line)
            # On the last two no line leans.
            if at < len(lines) - 2:
                self.assertIs(lets_by((SMALL, (), lines[:at] + lines[at + 1:])), False, at)
        self.assertIs(lets_by((SMALL, (), lines[:-1])), True)
        self.assertIs(lets_by((SMALL, (), lines[:-2] + lines[-1:])), True)

    def test_right_lines_of_what_is_no_argument(self):
        self.assertIs(lets_by((SMALL, (), GOOD[2][:4])), False)
        self.assertIs(lets_by((SMALL, (), GOOD[2] + (supposed(1, CAT),))), False)
        self.assertIs(lets_by(((("Ann", "Zed"),) + SMALL[1:], (), GOOD[2])), False)
        self.assertIs(lets_by(((("Ann",), ("cat",), ()), (), GOOD[2])), False)
        self.assertIs(lets_by((SMALL, (), ((0, ("is", "x", "cat"), ("given",)),))), False)

    def test_lists_for_tuples(self):
        self.assertIs(lets_by(list(GOOD)), False)
        for at in range(3):
            self.assertIs(lets_by(GOOD[:at] + (list(GOOD[at]),) + GOOD[at + 1:]), False)
        for at, line in enumerate(GOOD[2]):
            others = [list(line)] + [line[:which] + (list(line[which]),) + line[which + 1:] for which in (1, 2)]
            for other in others:
                self.assertIs(lets_by((SMALL, (), GOOD[2][:at] + (other,) + GOOD[2][at + 1:])), False)

    def test_parts_more_or_less(self):
        for at in range(3):
            self.assertIs(lets_by(GOOD[:at] + GOOD[at + 1:]), False)
            self.assertIs(lets_by(GOOD[:at] + GOOD[at:at + 1] + GOOD[at:]), False)
        for at, line in enumerate(GOOD[2]):
            for other in (line[:-1], line + ((),), line[1:], line[:2] + (line[2] + (1,),), line[:2] + (line[2][:-1],)):
                self.assertIs(lets_by((SMALL, (), GOOD[2][:at] + (other,) + GOOD[2][at + 1:])), False, other)

    def test_anything(self):
        for thing in ODD_THINGS + ODD_TEXTS + GOOD + (nest(20, GOOD[2][0]), (GOOD,)):
            self.assertIs(lets_by(thing), False)
            self.assertIs(lets_by((thing, thing, thing)), False)
            self.assertIs(lets_by((SMALL, (thing,), GOOD[2])), False)
            self.assertIs(lets_by((SMALL, (), (thing,))), False)
            self.assertIs(lets_by((SMALL, (), GOOD[2] + (thing,))), False)
            line = GOOD[2][2]
            for at in range(1, 3):
                self.assertIs(lets_by((SMALL, (), GOOD[2][:2] + (line[:at] + (thing,) + line[at + 1:],))), False)
            # A truth is no number of a line, even where it counts as 1.
            right = isinstance(thing, int) and not isinstance(thing, bool) and thing == 1
            self.assertIs(lets_by((SMALL, (), GOOD[2][:2] + ((0, DOG, ("then", 2, thing)),))), right)
        for thing in GOOD[2]:
            self.assertIs(lets_by(thing), False)

    def test_twenty_deep(self):
        for thing in (nest(19, "Ann"), nest(18, ("not", CAT)), nest(17, GOOD)):
            self.assertIs(lets_by(thing), False)
            self.assertIs(lets_by((SMALL, (), ((0, thing, ("given",)),))), False)
        form = CAT
        for _ in range(11):
            form = ("not", form)
        self.assertIs(lets_by((SMALL, (), (given(form), (0, form, ("again", 1))))), True)


class ByChance(unittest.TestCase):
    def test_the_worlds_tell_unsound_lines(self):
        self.assertEqual(unsound_lines(NOT_LET_BY), [2])
        lines = (given(SOME_CAT), (1, ZED_CAT, ("called", "Zed", 1)), clearly(1, ("is", "Zed", "dog")), clearly(0, SOME_CAT), clearly(0, CAT))
        self.assertEqual(unsound_lines((SMALL, (), lines)), [3, 5])

    def test_right_ones_and_bent_ones(self):
        chance = random.Random(23)
        words, bent = {}, {True: 0, False: 0}
        for _ in range(110):
            argument = random_argument(chance, 14)
            self.assertIs(lets_by(argument), True, argument)
            self.assertEqual(unsound_lines(argument), [])
            for _ in range(4):
                other = bent_argument(chance, argument)
                if not is_argument(other):
                    self.assertIs(lets_by(other), False)
                    continue
                rights = [is_right(other, k) for k in range(1, len(other[2]) + 1)]
                self.assertEqual(rights, [slow_right(other, k) for k in range(1, len(other[2]) + 1)], other)
                self.assertIs(lets_by(other), all(rights))
                bent[all(rights)] += 1
                if all(rights):
                    self.assertEqual(unsound_lines(other), [], other)
                for (_, _, reason), right in zip(other[2], rights):
                    words.setdefault(reason[0], set()).add(right)
        self.assertGreater(min(bent.values()), 30)
        self.assertGreaterEqual({word for word in words if words[word] == {True, False}}, {
            "given", "again", "both", "orleft", "orright", "then", "absurd", "at", "such", "put", "soif", "not", "contrary",
            "forany", "meaning", "turned", "sums", "itself"})

    def test_leaning_on_earlier_ones(self):
        chance = random.Random(19)
        leant = 0
        for _ in range(40):
            meanings = chance.choice(((), MEANINGS))
            first = random_argument(chance, 5, meanings)
            givens = tuple(line[1] for line in first[2] if line[2] == ("given",))
            second = random_argument(chance, 8, meanings, (("first", first),), givens)
            earlier = (("first", first), ("second", second))
            third = random_argument(chance, 10, meanings, earlier, givens)
            self.assertIs(lets_by(second, earlier[:1]), True)
            self.assertIs(lets_by(third, earlier), True)
            self.assertEqual(unsound_lines(third), [])
            leans = any(line[2][0] == "earlier" for line in third[2])
            leant += leans
            self.assertIs(lets_by(third), not leans)
        self.assertGreater(leant, 10)


if __name__ == "__main__":
    unittest.main()

"""[16], [17]: whether a form follows by a word from the forms at hand; of [3], that it then holds where they do."""

import random
import unittest

from linecourt.rules import follows
from linecourt.truths import holds
from tests.making import (
    FALSE, LETTERS, NAMES, SMALL_WORLDS, bends, is_closed_small, put, random_form, ways_to_put)
from tests.samples import deep_form
from tests.slowcourt import slow_follows

WORDS = ("again", "itself", "both", "left", "right", "orleft", "orright", "then", "absurd", "nothing", "at", "such", "put")
CAT, DOG, SEES = ("is", "Ann", "cat"), ("is", "Bob", "dog"), ("does", "sees", "Ann", "Bob")
ANN_IS_BOB = ("same", "Ann", "Bob")
LOOK = ("does", "sees", "x", "x")
# A letter at two places, and a third place at which an every within binds it anew.
INNER = ("or", LOOK, ("every", "x", ("is", "x", "cat")))


def seen(one, other):
    return ("does", "sees", one, other)


class Asking(unittest.TestCase):
    def yes(self, word, form, *forms, name=None):
        self.assertIs(follows(word, form, forms, name), True, (word, form, forms, name))

    def no(self, word, form, *forms, name=None):
        self.assertIs(follows(word, form, forms, name), False, (word, form, forms, name))


class EachWord(Asking):
    def test_again(self):
        for form in (CAT, SEES, FALSE, ("not", CAT), deep_form(12)):
            self.yes("again", form, form)
            for other in bends(form):
                self.no("again", other, form)
                self.no("again", form, other)

    def test_itself(self):
        self.yes("itself", ("same", "Ann", "Ann"))
        self.yes("itself", ("same", "Zed", "Zed"))
        for form in (ANN_IS_BOB, ("same", "Bob", "Ann"), seen("Ann", "Ann"), ("not", ("same", "Ann", "Ann")), CAT, FALSE,
                     ("every", "x", ("same", "x", "x")), ("and", ("same", "Ann", "Ann"), ("same", "Ann", "Ann"))):
            self.no("itself", form)

    def test_both(self):
        self.yes("both", ("and", CAT, DOG), CAT, DOG)
        self.yes("both", ("and", CAT, CAT), CAT, CAT)
        self.no("both", ("and", DOG, CAT), CAT, DOG)
        self.no("both", ("and", CAT, DOG), DOG, CAT)
        for word in ("or", "if"):
            self.no("both", (word, CAT, DOG), CAT, DOG)
        for form in bends(("and", CAT, DOG)):
            self.no("both", form, CAT, DOG)

    def test_left_and_right(self):
        self.yes("left", CAT, ("and", CAT, DOG))
        self.yes("right", DOG, ("and", CAT, DOG))
        self.no("left", DOG, ("and", CAT, DOG))
        self.no("right", CAT, ("and", CAT, DOG))
        self.yes("left", CAT, ("and", CAT, CAT))
        self.yes("right", CAT, ("and", CAT, CAT))
        for word in ("or", "if"):
            self.no("left", CAT, (word, CAT, DOG))
            self.no("right", DOG, (word, CAT, DOG))
        for form in bends(CAT):
            self.no("left", form, ("and", CAT, DOG))
        for form in bends(DOG):
            self.no("right", form, ("and", CAT, DOG))
        self.no("left", FALSE, FALSE)
        self.no("right", CAT, CAT)

    def test_or(self):
        for other in (DOG, CAT, FALSE, deep_form(9), ("and", CAT, DOG)):
            self.yes("orleft", ("or", CAT, other), CAT)
            self.yes("orright", ("or", other, CAT), CAT)
            self.no("orleft", ("and", CAT, other), CAT)
            self.no("orright", ("if", other, CAT), CAT)
        self.no("orleft", ("or", DOG, CAT), CAT)
        self.no("orright", ("or", CAT, DOG), CAT)
        self.no("orleft", CAT, CAT)
        self.no("orright", CAT, CAT)
        for form in bends(CAT):
            self.no("orleft", ("or", form, DOG), CAT)
            self.no("orright", ("or", DOG, form), CAT)

    def test_then(self):
        self.yes("then", DOG, ("if", CAT, DOG), CAT)
        self.yes("then", CAT, ("if", CAT, CAT), CAT)
        self.no("then", DOG, CAT, ("if", CAT, DOG))
        self.no("then", CAT, ("if", CAT, DOG), DOG)
        self.no("then", CAT, ("if", CAT, DOG), CAT)
        for word in ("or", "and"):
            self.no("then", DOG, (word, CAT, DOG), CAT)
        for form in bends(CAT):
            self.no("then", DOG, ("if", CAT, DOG), form)
        for form in bends(DOG):
            self.no("then", form, ("if", CAT, DOG), CAT)

    def test_absurd(self):
        for form in (CAT, FALSE, ("not", CAT), deep_form(12)):
            self.yes("absurd", FALSE, form, ("not", form))
            self.no("absurd", FALSE, ("not", form), form)
            self.no("absurd", FALSE, form, form)
            self.no("absurd", form if form != FALSE else CAT, form, ("not", form))
        self.yes("absurd", FALSE, ("not", CAT), ("not", ("not", CAT)))
        self.no("absurd", FALSE, ("not", ("not", CAT)), ("not", CAT))
        self.no("absurd", ("not", FALSE), CAT, ("not", CAT))

    def test_nothing(self):
        for form in (CAT, FALSE, deep_form(12), ("not", FALSE)):
            self.yes("nothing", form, FALSE)
            self.no("nothing", form, ("not", FALSE))
            self.no("nothing", form, CAT)

    def test_count_of_forms(self):
        self.no("again", CAT)
        self.no("again", CAT, CAT, CAT)
        self.no("both", ("and", CAT, CAT), CAT)
        self.no("nothing", CAT, FALSE, FALSE)

    def test_words_that_are_none_of_these(self):
        for word in ("given", "supposed", "by", "clearly", "sums", "turned", "meaning", "soif", "", "and"):
            self.no(word, CAT, CAT)
            self.no(word, CAT)


class Names(Asking):
    def test_at(self):
        self.yes("at", seen("Ann", "Ann"), ("every", "x", LOOK), name="Ann")
        self.no("at", seen("Ann", "Ann"), ("every", "x", LOOK), name="Bob")
        self.no("at", seen("Ann", "Bob"), ("every", "x", LOOK), name="Ann")
        self.no("at", seen("Ann", "x"), ("every", "x", LOOK), name="Ann")
        self.no("at", seen("Ann", "Ann"), ("some", "x", LOOK), name="Ann")
        self.no("at", ("every", "x", LOOK), seen("Ann", "Ann"), name="Ann")
        self.no("at", seen("Ann", "Ann"), ("every", "x", LOOK))

    def test_such(self):
        self.yes("such", ("some", "x", LOOK), seen("Ann", "Ann"), name="Ann")
        self.yes("such", ("some", "y", seen("y", "Ann")), seen("Ann", "Ann"), name="Ann")
        self.yes("such", ("some", "y", seen("Ann", "y")), seen("Ann", "Ann"), name="Ann")
        self.no("such", ("some", "x", LOOK), seen("Ann", "Ann"), name="Bob")
        self.no("such", ("some", "x", LOOK), seen("Ann", "Bob"), name="Ann")
        self.no("such", ("every", "x", LOOK), seen("Ann", "Ann"), name="Ann")
        self.no("such", seen("Ann", "Ann"), ("some", "x", LOOK), name="Ann")
        self.no("such", ("some", "x", LOOK), seen("Ann", "Ann"))

    def test_a_letter_at_no_place(self):
        for name in ("Ann", "Bob", "Zed"):
            self.yes("at", DOG, ("every", "x", DOG), name=name)
            self.yes("such", ("some", "x", DOG), DOG, name=name)
        self.no("at", CAT, ("every", "x", DOG), name="Ann")
        self.no("such", ("some", "x", CAT), DOG, name="Ann")

    def test_a_letter_bound_once_more(self):
        told = ("or", seen("Ann", "Ann"), INNER[2])
        self.yes("at", told, ("every", "x", INNER), name="Ann")
        self.yes("such", ("some", "x", INNER), told, name="Ann")
        for other in (("every", "x", CAT), ("every", "Ann", CAT), ("every", "y", ("is", "y", "cat"))):
            self.no("at", ("or", seen("Ann", "Ann"), other), ("every", "x", INNER), name="Ann")
            self.no("such", ("some", "x", INNER), ("or", seen("Ann", "Ann"), other), name="Ann")
        self.yes("at", ("every", "x", LOOK), ("every", "x", ("every", "x", LOOK)), name="Ann")

    def test_a_name_passed_over(self):
        for name in ("Ann", "Zed", None):
            self.yes("again", CAT, CAT, name=name)
            self.no("again", CAT, DOG, name=name)
            self.yes("itself", ("same", "Ann", "Ann"), name=name)
            self.yes("both", ("and", CAT, DOG), CAT, DOG, name=name)
            self.yes("put", ("is", "Bob", "cat"), ANN_IS_BOB, CAT, name=name)
            self.yes("nothing", CAT, FALSE, name=name)


class Put(Asking):
    def test_places(self):
        old = ("and", seen("Ann", "Ann"), ("not", ("is", "Ann", "dog")))
        ways = set(ways_to_put(old, "Ann", "Bob"))
        self.assertEqual(len(ways), 8)
        for form in ways:
            self.yes("put", form, ANN_IS_BOB, old)
            self.no("put", form, old, ANN_IS_BOB)
        for form in bends(old):
            self.assertIs(follows("put", form, (ANN_IS_BOB, old)), form in ways)
        for form in ways - {old}:
            self.no("put", form, ("same", "Bob", "Ann"), old)
            self.no("put", form, ("not", ANN_IS_BOB), old)
            self.no("put", old, ANN_IS_BOB, form)

    def test_a_place_of_a_third_name(self):
        self.yes("put", seen("Bob", "Zed"), ANN_IS_BOB, seen("Ann", "Zed"))
        self.no("put", seen("Bob", "Bob"), ANN_IS_BOB, seen("Ann", "Zed"))
        self.no("put", seen("Zed", "Bob"), ANN_IS_BOB, seen("Ann", "Ann"))
        self.no("put", ("is", "Zed", "cat"), ANN_IS_BOB, CAT)

    def test_a_name_with_itself(self):
        self.yes("put", CAT, ("same", "Ann", "Ann"), CAT)
        self.no("put", ("is", "Bob", "cat"), ("same", "Ann", "Ann"), CAT)

    def test_the_same_form(self):
        self.yes("put", ("same", "Bob", "Bob"), ANN_IS_BOB, ANN_IS_BOB)
        self.no("put", ("same", "Bob", "Ann"), ANN_IS_BOB, ANN_IS_BOB)
        self.yes("put", ("same", "Bob", "Ann"), ANN_IS_BOB, ("same", "Ann", "Ann"))

    def test_only_names_are_put(self):
        old = ("every", "x", ("if", ("is", "x", "cat"), ("least", (((("cat", 1)),), 0), ((), 1))))
        self.yes("put", old, ANN_IS_BOB, old)
        for form in bends(old):
            self.no("put", form, ANN_IS_BOB, old)

    def test_letters_that_are_bound(self):
        # Such a form isn't closed; what is told of a free letter is told of no other one that is written so, too.
        same = ("same", "x", "Ann")
        self.yes("put", CAT, same, ("is", "x", "cat"))
        self.no("put", ("every", "x", CAT), same, ("every", "x", ("is", "x", "cat")))
        self.no("put", ("every", "x", ("is", "x", "cat")), ("same", "Ann", "x"), ("every", "x", CAT))
        self.yes("put", ("every", "y", seen("Ann", "y")), same, ("every", "y", seen("x", "y")))

    def test_deep(self):
        for deep in (6, 7, 9, 12):
            form = seen("Ann", "Ann")
            for at in range(deep - 1):
                form = (("not", form), ("and", form, CAT), ("every", "x", form), ("or", DOG, form), ("if", CAT, form))[at % 5]
            ways = ways_to_put(form, "Ann", "Bob")
            self.assertGreater(len(ways), 8)
            for way in ways:
                self.yes("put", way, ANN_IS_BOB, form)
            more = put_deep(form, seen("Ann", "Zed"))
            self.assertNotEqual(more, form)
            self.no("put", more, ANN_IS_BOB, form)
            self.yes("put", put_deep(form, seen("Bob", "Zed")), ANN_IS_BOB, more)
            self.no("put", put_deep(form, seen("Ann", "Bob")), ANN_IS_BOB, more)

    def test_wide(self):
        # Each of sixty places might be the one or the other: they can't be gone through one by one.
        form = ("and", seen("Ann", "Ann"), seen("Ann", "Ann"))
        for _ in range(4):
            form = ("and", form, form)
        self.yes("put", ways_first(form, "Bob"), ANN_IS_BOB, form)
        self.no("put", ways_first(form, "Zed"), ANN_IS_BOB, form)


def put_deep(form, inner):
    """The form with its innermost, of Ann who sees herself, put otherwise."""
    if form == seen("Ann", "Ann"):
        return inner
    return form[:1] + tuple(put_deep(piece, inner) if isinstance(piece, tuple) else piece for piece in form[1:])


def ways_first(form, name):
    """A name in the place of Ann in each right side."""
    if form[0] == "and":
        return ("and", form[1], ways_first(form[2], name))
    return form[:-1] + (name,)


def made(chance, word):
    """A form and forms of which it follows by a word, by chance, and a name."""
    one, other = random_form(chance, 4), random_form(chance, 3)
    letter, name = chance.choice(LETTERS), chance.choice(NAMES)
    inner = random_form(chance, 4, NAMES + (letter,))
    case = put(inner, letter, name)
    return {
        "again": (one, (one,), None), "itself": (("same", name, name), (), None), "both": (("and", one, other), (one, other), None),
        "left": (one, (("and", one, other),), None), "right": (other, (("and", one, other),), None),
        "orleft": (("or", one, other), (one,), None), "orright": (("or", one, other), (other,), None),
        "then": (other, (("if", one, other), one), None), "absurd": (FALSE, (one, ("not", one)), None),
        "nothing": (one, (FALSE,), None), "at": (case, (("every", letter, inner),), name),
        "such": (("some", letter, inner), (case,), name),
        "put": (chance.choice(ways_to_put(one, "Ann", "Bob")), (ANN_IS_BOB, one), None),
    }[word]


def bent_a_little(chance, form):
    return chance.choice(list(bends(form))) if chance.random() < 0.5 else form


class ByChance(unittest.TestCase):
    def test_against_the_slow_court(self):
        chance = random.Random(17)
        for word in WORDS:
            told = []
            for _ in range(250):
                form, forms, name = made(chance, word)
                self.assertIs(follows(word, form, forms, name), True, (word, form, forms, name))
                forms = tuple(bent_a_little(chance, one) for one in forms)
                form = bent_a_little(chance, form)
                name = chance.choice(NAMES) if name else None
                told.append(follows(word, form, forms, name))
                self.assertIs(told[-1], slow_follows(word, form, forms, name), (word, form, forms, name))
            self.assertEqual(set(told), {True, False}, word)

    def test_the_worlds_of_the_tests(self):
        chance = random.Random(5)
        for _ in range(40):
            form = random_form(chance, 5)
            told = SMALL_WORLDS.holds(form)
            for size, worlds in SMALL_WORLDS.worlds.items():
                at = chance.randrange(len(worlds))
                self.assertIs(holds(worlds[at], form), bool(told[size] >> at & 1))

    def test_what_follows_holds(self):
        chance = random.Random(3)
        for word in WORDS:
            asked = 0
            while asked < 100:
                form, forms, name = made(chance, word)
                forms = tuple(bent_a_little(chance, one) for one in forms)
                form = bent_a_little(chance, form)
                name = chance.choice(NAMES) if name else None
                if is_closed_small(forms + (form,)) and follows(word, form, forms, name):
                    asked += 1
                    self.assertTrue(SMALL_WORLDS.follows(form, forms), (word, form, forms))


if __name__ == "__main__":
    unittest.main()

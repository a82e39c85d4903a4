"""[20], [21]: what follows by the words of counts; of [3], that it then holds where the forms do."""

import itertools
import random
import unittest

from linecourt.counts import counted
from tests.making import FALSE, SMALL_WORLDS, bends, is_closed_small, total
from tests.slowcourt import ALL_LETTERS, slow_counted

KINDS = ("cat", "cow", "dog")
WORDS = ("asmany", "one", "two", "someof", "none", "nomore", "apart", "cover", "turned")
PLAIN_LETTERS = ("x", "y", "w0", "u9")


def a(term, kind):
    return ("is", term, kind)


def every_if(x, one, other):
    return ("every", x, ("if", one, other))


def least(one, other):
    return ("least", one, other)


def of(*kinds, more=0):
    """The sum of some kinds and a number."""
    return total(more, **{kind: kinds.count(kind) for kind in kinds})


def made(word, kinds, letters):
    """The form that follows by a word, and the forms from which it does; of turned see below."""
    k, l, m = kinds
    x, y = letters
    return {
        "asmany": (least(of(l), of(k)), (every_if(x, a(x, k), a(x, l)),)),
        "one": (least(of(k), of(more=1)), (a("Ann", k),)),
        "two": (least(of(k), of(more=2)), (a("Ann", k), a("Bob", k), ("not", ("same", "Ann", "Bob")))),
        "someof": (("some", x, a(x, k)), (least(of(k), of(more=1)),)),
        "none": (least(of(), of(k)), (("every", x, ("not", a(x, k))),)),
        "nomore": (("every", x, ("not", a(x, k))), (least(of(), of(k)),)),
        "apart": (least(of(m), of(k, l)), (
            every_if(x, a(x, k), ("not", a(x, l))), every_if(y, ("or", a(y, k), a(y, l)), a(y, m)))),
        "cover": (least(of(k, l), of(m)), (every_if(x, a(x, m), ("or", a(x, k), a(x, l))),)),
        "turned": (least(of(l), of(k, m, more=1)), (("not", least(of(k, m), of(l))),)),
    }[word]


class Asking(unittest.TestCase):
    def told(self, word, form, forms):
        told = counted(word, form, forms)
        self.assertIs(told, slow_counted(word, form, forms, KINDS), (word, form, forms))
        return told

    def yes(self, word, form, *forms):
        self.assertIs(self.told(word, form, forms), True, (word, form, forms))

    def no(self, word, form, *forms):
        self.assertIs(self.told(word, form, forms), False, (word, form, forms))


class EachWord(Asking):
    def test_as_told_of_all_kinds(self):
        for word in WORDS:
            for kinds in itertools.product(KINDS, repeat=3):
                form, forms = made(word, kinds, ("x", "x"))
                self.yes(word, form, *forms)

    def test_the_same_kind_twice(self):
        twice = ((("cat", 2),), 0)
        self.yes("apart", least(of("dog"), twice), every_if("x", a("x", "cat"), ("not", a("x", "cat"))),
                 every_if("x", ("or", a("x", "cat"), a("x", "cat")), a("x", "dog")))
        self.yes("cover", least(twice, of("dog")), every_if("x", a("x", "dog"), ("or", a("x", "cat"), a("x", "cat"))))
        self.yes("cover", least(twice, of("cat")), every_if("x", a("x", "cat"), ("or", a("x", "cat"), a("x", "cat"))))
        self.no("cover", least(of("cat"), of("dog")), every_if("x", a("x", "dog"), ("or", a("x", "cat"), a("x", "cat"))))
        self.yes("asmany", least(of("cat"), of("cat")), every_if("x", a("x", "cat"), a("x", "cat")))

    def test_any_letter_in_each(self):
        for x, y in itertools.product(ALL_LETTERS, PLAIN_LETTERS):
            for word in ("asmany", "someof", "none", "nomore", "apart", "cover"):
                form, forms = made(word, ("dog", "cat", "cow"), (x, y))
                self.yes(word, form, *forms)

    def test_the_letter_at_some_places_alone(self):
        for word in ("asmany", "someof", "none", "nomore", "apart", "cover"):
            form, forms = made(word, ("dog", "cat", "cow"), ("x", "y"))
            for at, one in enumerate((form,) + forms):
                if one[0] in ("every", "some"):
                    places = repr(one).count(f"'{one[1]}'")
                    for which in range(places):
                        rows = (form,) + forms
                        bent = rows[:at] + (at_place(one, one[1], "z", which),) + rows[at + 1:]
                        self.no(word, bent[0], *bent[1:])

    def test_bent_at_each_place(self):
        for word in WORDS:
            for kinds in (("cat", "dog", "cow"), ("dog", "cat", "cow"), ("cat", "cat", "dog"), ("cat", "cat", "cat")):
                form, forms = made(word, kinds, ("x", "y"))
                for other in bends(form):
                    self.told(word, other, forms)
                    if word not in ("someof", "nomore"):
                        self.no(word, other, *forms)
                for at, one in enumerate(forms):
                    for other in bends(one):
                        self.told(word, form, forms[:at] + (other,) + forms[at + 1:])

    def test_forms_turned_about(self):
        for word in WORDS:
            form, forms = made(word, ("cat", "dog", "cow"), ("x", "x"))
            if len(forms) > 1:
                for rows in itertools.permutations(forms):
                    self.assertIs(self.told(word, form, rows), rows == forms)
            else:
                self.no(word, forms[0], form)

    def test_each_form_by_each_word(self):
        for one, other in itertools.product(WORDS, repeat=2):
            form, forms = made(one, ("cat", "dog", "cow"), ("x", "x"))
            self.assertIs(self.told(other, form, forms), one == other)

    def test_the_count_of_forms(self):
        for word in WORDS:
            form, forms = made(word, ("cat", "dog", "cow"), ("x", "x"))
            self.no(word, form, *forms[:-1])
            self.no(word, form, *forms, forms[-1])

    def test_words_that_are_none_of_these(self):
        form, forms = made("one", ("cat", "dog", "cow"), ("x", "x"))
        for word in ("sums", "again", "by", "", "clearly", "nothing"):
            self.assertIs(counted(word, form, forms), False)

    def test_simple_forms(self):
        for word in WORDS:
            for forms in itertools.product((FALSE, a("Ann", "cat"), ("same", "Ann", "Bob")), repeat=len(made(word, KINDS, ("x", "x"))[1])):
                for form in (FALSE, least(of(), of()), a("Ann", "cat")):
                    self.no(word, form, *forms)


def at_place(form, letter, other, which):
    """The form with another letter at one of the places of a letter, which from 0 on."""
    count = [0]

    def walk(piece):
        if isinstance(piece, tuple):
            return tuple(walk(inner) for inner in piece)
        if piece != letter:
            return piece
        count[0] += 1
        return other if count[0] == which + 1 else piece

    return walk(form)


class SingleWords(Asking):
    def test_one(self):
        for number in (0, 2, 3, 12):
            self.no("one", least(of("cat"), of(more=number)), a("Ann", "cat"))
        self.no("one", least(of("dog"), of(more=1)), a("Ann", "cat"))
        self.no("one", least(of("cat", "cat"), of(more=1)), a("Ann", "cat"))
        self.yes("one", least(of("cat"), of(more=1)), a("Zed", "cat"))
        self.no("one", least(of("cat"), of(more=1)), ("not", a("Ann", "cat")))

    def test_two(self):
        cats, ann, bob = least(of("cat"), of(more=2)), a("Ann", "cat"), a("Bob", "cat")
        self.yes("two", cats, ann, bob, ("not", ("same", "Ann", "Bob")))
        self.yes("two", cats, bob, ann, ("not", ("same", "Bob", "Ann")))
        self.no("two", cats, ann, bob, ("not", ("same", "Bob", "Ann")))
        self.no("two", cats, ann, bob, ("same", "Ann", "Bob"))
        self.no("two", cats, ann, a("Bob", "dog"), ("not", ("same", "Ann", "Bob")))
        self.no("two", cats, ann, a("Zed", "cat"), ("not", ("same", "Ann", "Bob")))
        self.yes("two", cats, ann, ann, ("not", ("same", "Ann", "Ann")))
        for one, other in (("x", "Bob"), ("Ann", "x"), ("x", "y")):
            self.no("two", cats, a(one, "cat"), a(other, "cat"), ("not", ("same", one, other)))
        self.no("two", least(of("cat"), of(more=1)), ann, bob, ("not", ("same", "Ann", "Bob")))
        self.no("two", least(of("cat"), of(more=3)), ann, bob, ("not", ("same", "Ann", "Bob")))

    def test_someof(self):
        for number in (0, 2, 7):
            self.no("someof", ("some", "x", a("x", "cat")), least(of("cat"), of(more=number)))
        self.no("someof", ("some", "x", a("x", "cat")), least(of("cat", more=1), of(more=1)))
        self.no("someof", ("some", "x", a("Ann", "cat")), least(of("cat"), of(more=1)))
        self.no("someof", ("every", "x", a("x", "cat")), least(of("cat"), of(more=1)))

    def test_turned(self):
        for one, other in itertools.product((of(), of(more=3), of("cat"), of("cat", "dog", "dog", more=2), of("dog", more=999)), repeat=2):
            more = (one[0], one[1] + 1)
            self.yes("turned", least(other, more), ("not", least(one, other)))
            self.yes("turned", ("not", least(other, more)), least(one, other))
            self.no("turned", least(other, one), ("not", least(one, other)))
            self.no("turned", least(more, other), ("not", least(one, other)))
            self.no("turned", ("not", least(other, one)), least(one, other))
            self.no("turned", ("not", ("not", least(other, more))), ("not", least(one, other)))
            self.no("turned", least(other, more), least(one, other))
            self.no("turned", ("not", least(other, more)), ("not", least(one, other)))
            self.no("turned", least(one, other), ("not", least(other, more)) if one != other else FALSE)

    def test_names_for_letters(self):
        self.no("asmany", least(of("dog"), of("cat")), every_if("x", a("Ann", "cat"), a("Ann", "dog")))
        self.no("none", least(of(), of("cat")), ("every", "x", ("not", a("Ann", "cat"))))
        self.no("none", least(of(), of("cat")), ("not", ("some", "x", a("x", "cat"))))


class ByChance(Asking):
    def test_what_follows_holds(self):
        chance = random.Random(20)
        for word in WORDS:
            asked = 0
            while asked < 60:
                kinds = tuple(chance.choice(("cat", "dog")) for _ in range(3))
                form, forms = made(word, kinds, (chance.choice("xy"), chance.choice("xy")))
                if word == "turned" and chance.random() < 0.5:
                    form, forms = ("not", form), (forms[0][1],)
                if chance.random() < 0.5:
                    form = chance.choice(list(bends(form)))
                at = chance.randrange(len(forms))
                if chance.random() < 0.5:
                    forms = forms[:at] + (chance.choice(list(bends(forms[at]))),) + forms[at + 1:]
                if is_closed_small(forms + (form,)) and self.told(word, form, forms):
                    asked += 1
                    self.assertTrue(SMALL_WORLDS.follows(form, forms), (word, form, forms))


if __name__ == "__main__":
    unittest.main()

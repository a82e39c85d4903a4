"""[5], [7]: which closed forms hold in a world, and what a sum comes to."""

import itertools
import random
import unittest

from linecourt.truths import count_of, holds
from linecourt.worlds import is_world, worlds_of
from tests.samples import deep_form, wide_form

FULL = (("Ann", "Tom"), ("cat", "dog"), ("likes", "sees"))
# Ann and Tom are 0 and 2; 0 and 1 are cats, 1 is a dog; 0 likes 1, 1 likes itself, and 2 sees 0.
WORLD = (
    3, (("Ann", 0), ("Tom", 2)), (("cat", (0, 1)), ("dog", (1,))), (("likes", ((0, 1), (1, 1))), ("sees", ((2, 0),))),
)
TRUE, FALSE = ("not", ("false",)), ("false",)
CAT, DOG = ("is", "x", "cat"), ("is", "x", "dog")


def naive(world, form, places):
    """Whether a form holds, by going through all things one by one."""
    many, names, kinds, doings = world
    word = form[0]
    thing = {**dict(names), **places}
    if word == "false":
        return False
    if word == "is":
        return thing[form[1]] in dict(kinds)[form[2]]
    if word == "same":
        return thing[form[1]] == thing[form[2]]
    if word == "does":
        return (thing[form[2]], thing[form[3]]) in dict(doings)[form[1]]
    if word == "least":
        one, other = (
            number + sum(len(dict(kinds)[kind]) * times for kind, times in parts) for parts, number in form[1:]
        )
        return one >= other
    if word == "not":
        return not naive(world, form[1], places)
    if word == "and":
        return naive(world, form[1], places) and naive(world, form[2], places)
    if word == "or":
        return naive(world, form[1], places) or naive(world, form[2], places)
    if word == "if":
        return not naive(world, form[1], places) or naive(world, form[2], places)
    told = [naive(world, form[2], {**places, form[1]: thing}) for thing in range(many)]
    return all(told) if word == "every" else any(told)


def random_world(chance, many, share):
    def rows(things):
        return tuple(thing for thing in things if chance.random() < share)
    pairs = list(itertools.product(range(many), repeat=2))
    return (
        many, tuple((name, chance.randrange(many)) for name in FULL[0]),
        tuple((kind, rows(range(many))) for kind in FULL[1]), tuple((doing, rows(pairs)) for doing in FULL[2]),
    )


def random_form(chance, deep, bound):
    terms = FULL[0] + bound
    words = ("is", "does", "same", "least", "false") if deep == 1 else ("not", "and", "or", "if", "every", "some") * 2 + ("is",)
    word = chance.choice(words)
    if word == "is":
        return ("is", chance.choice(terms), chance.choice(FULL[1]))
    if word == "does":
        return ("does", chance.choice(FULL[2]), chance.choice(terms), chance.choice(terms))
    if word == "same":
        return ("same", chance.choice(terms), chance.choice(terms))
    if word == "least":
        sums = (((), 0), ((), 2), ((("cat", 1),), 0), ((("cat", 1), ("dog", 2)), 1), ((("dog", 1),), 1))
        return ("least", chance.choice(sums), chance.choice(sums))
    if word == "false":
        return ("false",)
    if word == "not":
        return ("not", random_form(chance, deep - 1, bound))
    if word in ("and", "or", "if"):
        return (word, random_form(chance, deep - 1, bound), random_form(chance, deep - 1, bound))
    letter = chance.choice(("x", "y", "z", "x1"))
    return (word, letter, random_form(chance, deep - 1, bound + (letter,)))


class Holding(unittest.TestCase):
    def check(self, form, wanted, world=WORLD):
        self.assertIs(holds(world, form), wanted, form)

    def test_simple_forms(self):
        for form, wanted in (
            (("is", "Ann", "cat"), True), (("is", "Ann", "dog"), False), (("is", "Tom", "cat"), False),
            (("does", "sees", "Tom", "Ann"), True), (("does", "sees", "Ann", "Tom"), False),
            (("does", "likes", "Tom", "Ann"), False), (("same", "Ann", "Ann"), True), (("same", "Ann", "Tom"), False),
            (("false",), False), (("not", ("false",)), True), (("not", ("is", "Ann", "cat")), False),
        ):
            self.check(form, wanted)

    def test_two_names_of_one_thing(self):
        world = (1, (("Ann", 0), ("Tom", 0)), (("cat", ()), ("dog", (0,))), (("likes", ((0, 0),)), ("sees", ())))
        self.check(("same", "Ann", "Tom"), True, world)
        self.check(("does", "likes", "Ann", "Tom"), True, world)
        self.check(("does", "sees", "Ann", "Ann"), False, world)

    def test_joined_forms(self):
        for one, other in itertools.product((True, False), repeat=2):
            first, second = (TRUE if one else FALSE), (TRUE if other else FALSE)
            self.check(("and", first, second), one and other)
            self.check(("or", first, second), one or other)
            self.check(("if", first, second), other or not one)
            self.check(("not", ("and", first, second)), not (one and other))
            self.check(("not", ("or", first, second)), not (one or other))
            self.check(("not", ("if", first, second)), one and not other)

    def test_every_and_some(self):
        for form, wanted in (
            (("every", "x", CAT), False), (("some", "x", CAT), True), (("some", "x", ("not", CAT)), True),
            (("every", "x", ("if", DOG, CAT)), True), (("every", "x", ("if", CAT, DOG)), False),
            (("some", "x", ("and", CAT, ("not", DOG))), True), (("some", "x", ("and", DOG, ("not", CAT))), False),
            (("every", "x", ("or", CAT, ("same", "x", "Tom"))), True), (("every", "x", ("same", "x", "x")), True),
            (("every", "x", ("some", "y", ("does", "likes", "x", "y"))), False),
            (("some", "y", ("every", "x", ("if", CAT, ("does", "likes", "x", "y")))), True),
            (("every", "x", ("if", CAT, ("some", "y", ("does", "likes", "x", "y")))), True),
            (("some", "x", ("does", "likes", "x", "x")), True), (("some", "x", ("does", "sees", "x", "x")), False),
            (("some", "x", ("every", "y", ("not", ("does", "likes", "x", "y")))), True),
            (("every", "x", ("is", "Ann", "cat")), True), (("some", "x", ("false",)), False),
            (("not", ("every", "x", ("some", "y", ("not", ("same", "x", "y"))))), False),
        ):
            self.check(form, wanted)

    def test_letters_bound_once_more(self):
        for form, wanted in (
            (("every", "x", ("some", "x", DOG)), True), (("some", "x", ("every", "x", DOG)), False),
            (("some", "x", ("and", DOG, ("some", "x", ("not", CAT)))), True),
            (("some", "x", ("and", ("some", "x", ("not", CAT)), DOG)), True),
            (("every", "x", ("if", DOG, ("and", ("every", "x", ("if", DOG, CAT)), CAT))), True),
            (("some", "x", ("and", ("not", CAT), ("every", "y", ("some", "x", ("and", DOG,
             ("or", ("does", "likes", "y", "x"), ("same", "y", "Tom"))))))), True),
        ):
            self.check(form, wanted)
            self.assertIs(naive(WORLD, form, {}), wanted)

    def test_least(self):
        def kinds(cats, dogs, number):
            return (tuple((kind, times) for kind, times in (("cat", cats), ("dog", dogs)) if times), number)
        for one, other, wanted in (
            (kinds(1, 0, 0), kinds(0, 1, 0), True), (kinds(0, 1, 0), kinds(1, 0, 0), False),
            (kinds(0, 2, 0), kinds(1, 0, 0), True), (kinds(0, 1, 1), kinds(1, 0, 0), True),
            (kinds(0, 1, 1), kinds(1, 0, 1), False), (kinds(0, 0, 0), kinds(0, 0, 0), True),
            (kinds(0, 0, 4), kinds(1, 2, 0), True), (kinds(0, 0, 3), kinds(1, 2, 0), False),
            (kinds(0, 0, 10 ** 12 - 1), kinds(10 ** 12 - 1, 0, 0), False),
            (kinds(10 ** 12 - 1, 0, 0), kinds(0, 0, 10 ** 12 - 1), True),
        ):
            self.check(("least", one, other), wanted)
            self.check(("not", ("every", "x", ("least", one, other))), not wanted)

    def test_all_small_worlds_by_going_through_all_things(self):
        chance = random.Random(7)
        worlds = [world for size in (1, 2) for world in worlds_of((("Ann", "Tom"), ("cat", "dog"), ("likes",)), size)]
        worlds = [world[:3] + (world[3] + (("sees", ()),),) for world in chance.sample(worlds, 60)]
        worlds += [random_world(chance, 3, share) for share in (0.2, 0.5, 0.8)]
        for _ in range(300):
            form = random_form(chance, chance.randrange(1, 6), ())
            for world in chance.sample(worlds, 8):
                self.assertIs(is_world(FULL, world), True)
                self.check(form, naive(world, form, {}), world)

    def test_nested_every_and_some_by_going_through_all_things(self):
        chance = random.Random(8)
        for _ in range(300):
            form = random_form(chance, 3, ("x", "y", "z"))
            for letter in chance.sample(("x", "y", "z"), 3):
                form = (chance.choice(("every", "some")), letter, form)
            world = random_world(chance, chance.randrange(1, 5), chance.choice((0.1, 0.5, 0.9)))
            self.check(form, naive(world, form, {}), world)

    def test_twelve_within_one_another(self):
        chance = random.Random(9)
        for many in (1, 2):
            world = random_world(chance, many, 0.5)
            self.check(deep_form(12), naive(world, deep_form(12), {}), world)
        self.check(wide_form(119), naive(WORLD, wide_form(119), {}))
        form = ("is", "Ann", "cat")
        for at in range(11):
            form = ("not", form)
            self.check(form, at % 2 == 1)


class TwentyThings(unittest.TestCase):
    LETTERS = tuple(sign + figure for sign in "xyzuvw" for figure in ("", "1"))[:11]

    def setUp(self):
        ring = tuple((thing, (thing + 1) % 20) for thing in range(20))
        less = tuple((one, other) for one in range(20) for other in range(one + 1, 20))
        self.world = (
            20, (("Ann", 0), ("Tom", 19)), (("cat", tuple(range(0, 20, 2))), ("dog", tuple(range(20)))),
            (("likes", tuple(sorted(ring))), ("sees", less)),
        )

    def check(self, form, wanted):
        self.assertIs(holds(self.world, form), wanted, form)

    def bind(self, words, letters, form):
        for word, letter in reversed(list(zip(words, letters))):
            form = (word, letter, form)
        return form

    def test_eleven_letters_around_one_form(self):
        ends = (self.LETTERS[0], self.LETTERS[10])
        for word in ("every", "some"):
            self.check(self.bind([word] * 11, self.LETTERS, ("does", "sees") + ends), word == "some")
            self.check(self.bind([word] * 11, self.LETTERS, ("is", ends[1], "dog")), True)
            self.check(self.bind([word] * 11, self.LETTERS, ("false",)), False)
        mixed = ["every", "some"] * 5 + ["every"]
        self.check(self.bind(mixed, self.LETTERS, ("is", ends[0], "cat")), False)
        self.check(self.bind(mixed, self.LETTERS, ("is", self.LETTERS[9], "cat")), True)
        self.check(self.bind(mixed, self.LETTERS, ("does", "likes", ends[0], self.LETTERS[9])), True)

    def test_a_chain(self):
        # From every thing six steps lead on to one that is a cat just where it is one itself.
        form = ("is", "v", "cat")
        for one, other in (("u", "v"), ("z", "u"), ("y", "z"), ("x", "y")):
            form = ("some", other, ("and", ("does", "likes", one, other), form))
        self.check(("every", "x", ("if", ("is", "x", "cat"), form)), True)
        self.check(("every", "x", form), False)
        self.check(("some", "x", ("and", form, ("not", ("is", "x", "cat")))), False)

    def test_every_of_six_letters(self):
        def sees(one, other):
            return ("does", "sees", one, other)
        steps = ("and", sees("x", "y"), ("and", sees("y", "z"), ("and", sees("z", "u"), sees("u", "v"))))
        letters = ("x", "y", "z", "u", "v")
        self.check(self.bind(["every"] * 5, letters, ("if", steps, sees("x", "v"))), True)
        self.check(self.bind(["every"] * 5, letters, ("if", steps, sees("v", "x"))), False)
        self.check(self.bind(["some"] * 5, letters, ("and", steps, ("not", sees("x", "v")))), False)
        self.check(self.bind(["some"] * 5, letters, ("and", steps, sees("x", "v"))), True)

    def test_every_and_some_in_turn(self):
        self.check(("every", "x", ("or", ("same", "x", "Tom"), ("some", "y", ("does", "sees", "x", "y")))), True)
        self.check(("some", "x", ("every", "y", ("or", ("same", "x", "y"), ("does", "sees", "x", "y")))), True)
        self.check(("some", "x", ("every", "y", ("does", "sees", "x", "y"))), False)
        self.check(("least", ((("cat", 2),), 0), ((("dog", 1),), 0)), True)
        self.check(("least", ((("cat", 2),), 0), ((("dog", 1),), 1)), False)

    def test_by_going_through_all_things(self):
        chance = random.Random(10)
        for _ in range(60):
            form = random_form(chance, 3, ("x", "y"))
            form = (chance.choice(("every", "some")), "x", (chance.choice(("every", "some")), "y", form))
            self.check(form, naive(self.world, form, {}))


class ThingsThatNothingTellsApart(unittest.TestCase):
    """Of these one is tried alone: the same must come as of all."""

    def test_by_going_through_all_things(self):
        chance = random.Random(70)
        told = {True: 0, False: 0}
        for _ in range(600):
            many = chance.choice((5, 6, 7))
            world = random_world(chance, many, chance.choice((0, 0, 0.1, 0.3)))
            form = random_form(chance, 5, ())
            self.assertEqual(holds(world, form), naive(world, form, {}), (world, form))
            told[holds(world, form)] += 1
        self.assertGreater(min(told.values()), 100)

    def test_how_many_there_are(self):
        letters = ("x", "y", "z", "u", "v", "w", "x1", "x2")
        for many in range(1, 9):
            form = TRUE
            for at, one in enumerate(letters[:many]):
                for other in letters[:at]:
                    form = ("and", form, ("not", ("same", one, other)))
            for letter in letters[:many]:
                form = ("some", letter, form)
            for size in (1, 2, 3, 4, 5, 6, 7, 8, 60, 10 ** 12 - 1):
                world = (size, (("Ann", 0), ("Tom", size - 1)), (("cat", ()), ("dog", ())), (("likes", ()), ("sees", ())))
                self.assertIs(holds(world, form), size >= many)


class Counting(unittest.TestCase):
    def test_sums(self):
        for total, wanted in (
            (((), 0), 0), (((), 7), 7), (((("cat", 1),), 0), 2), (((("dog", 1),), 0), 1), (((("cat", 3),), 0), 6),
            (((("cat", 3),), 1), 7), (((("cat", 1), ("dog", 1)), 0), 3),
        ):
            told = count_of(WORLD, total)
            self.assertEqual(told, wanted)
            self.assertIs(type(told), int)
        self.assertEqual(count_of(WORLD, ((("cat", 2), ("dog", 5)), 4)), 13)
        self.assertEqual(count_of(WORLD, ((("cat", 999999999999), ("dog", 999999999999)), 999999999999)), 4 * 999999999999)

    def test_kinds_without_things(self):
        world = (2, (), (("cat", ()), ("dog", (0, 1))), ())
        self.assertEqual(count_of(world, ((("cat", 9),), 0)), 0)
        self.assertEqual(count_of(world, ((("cat", 9), ("dog", 2)), 1)), 5)


if __name__ == "__main__":
    unittest.main()

"""[28], of [13] and [3]: the least world against a line, `beyond the bound`, and TooGreat."""

import random
import unittest

from linecourt.against import against
from linecourt.arguments import is_argument
from linecourt.errors import TooGreat
from linecourt.worlds import is_world
from tests.arguing import MEANINGS, bent_argument, random_argument, worlds_with
from tests.making import FALSE, NAMES, SMALL, clearly, given, random_form, supposed, total
from tests.slowcourt import slow_names, slow_unfolded
from tests.test_lines import slow_open_to
from tests.test_truths import naive
from tests.test_worlds import all_worlds, number

BEYOND = "beyond the bound"
CAT, DOG, BOB = ("is", "Ann", "cat"), ("is", "Ann", "dog"), ("is", "Bob", "cat")
ALL_CATS, SOME_CAT = ("every", "x", ("is", "x", "cat")), ("some", "x", ("is", "x", "cat"))
ANN = (("Ann",), ("cat",), ())
NONE = ((), (), ())
ITSELF = ("every", "x", ("same", "x", "x"))


def two_things(x="x", y="y"):
    return ("some", x, ("some", y, ("not", ("same", x, y))))


def at_least(many):
    """There are so many things, at least."""
    letters = [letter + figure for letter in "uvwxyz" for figure in "0123456789"][:many]
    form = ("not", FALSE)
    for one in letters:
        for other in letters[:letters.index(one)]:
            form = ("and", form, ("not", ("same", one, other)))
    for letter in letters:
        form = ("some", letter, form)
    return form


def vocabulary_at(argument, k):
    return (tuple(sorted(slow_names(argument, k))),) + argument[0][1:]


def slow_against(argument, k, size):
    """By going through all worlds, sizes and things one by one."""
    vocabulary = vocabulary_at(argument, k)
    many = sum(number(vocabulary, one) for one in range(1, size + 1))
    if many > 4096:
        raise TooGreat(many, 4096)
    lines = argument[2]
    forms = [slow_unfolded(argument[1], lines[m - 1][1]) for m in slow_open_to(lines, k)]
    form = slow_unfolded(argument[1], lines[k - 1][1])
    for one in range(1, size + 1):
        for world in all_worlds(vocabulary, one):
            if not naive(world, form, {}) and all(naive(world, other, {}) for other in forms):
                return world
    return BEYOND


class Asking(unittest.TestCase):
    def told(self, vocabulary, lines, k=None, size=2, meanings=()):
        argument = (vocabulary, meanings, tuple(lines))
        self.assertTrue(is_argument(argument), argument)
        k = k or len(lines)
        told = against(argument, k, size)
        if told != BEYOND:
            self.assertTrue(is_world(vocabulary_at(argument, k), told), told)
        return told

    def slowly(self, vocabulary, lines, k=None, size=2, meanings=()):
        """What is told, which is what a slow search tells."""
        told = self.told(vocabulary, lines, k, size, meanings)
        self.assertEqual(told, slow_against((vocabulary, meanings, tuple(lines)), k or len(lines), size))
        return told

    def great(self, many, vocabulary, lines, k=None, size=2):
        argument = (vocabulary, (), tuple(lines))
        self.assertTrue(is_argument(argument), argument)
        with self.assertRaises(TooGreat) as caught:
            against(argument, k or len(lines), size)
        self.assertEqual((caught.exception.many, caught.exception.most), (many, 4096))


class Least(Asking):
    def test_one_thing(self):
        self.assertEqual(self.slowly(ANN, [clearly(0, CAT)]), (1, (("Ann", 0),), (("cat", ()),), ()))
        self.assertEqual(self.slowly(ANN, [clearly(0, ("not", CAT))]), (1, (("Ann", 0),), (("cat", (0,)),), ()))
        self.assertEqual(self.slowly(NONE, [clearly(0, FALSE)]), (1, (), (), ()))
        self.assertEqual(self.slowly(NONE, [clearly(0, FALSE)], size=1), (1, (), (), ()))

    def test_the_smallest_size_first(self):
        # Of one thing there is none; of two the first of all.
        lines = [given(CAT), clearly(0, ALL_CATS)]
        self.assertEqual(self.slowly(ANN, lines, size=1), BEYOND)
        self.assertEqual(self.slowly(ANN, lines), (2, (("Ann", 0),), (("cat", (0,)),), ()))
        self.assertEqual(self.slowly(ANN, lines, size=3), (2, (("Ann", 0),), (("cat", (0,)),), ()))
        # As tuples are compared, worlds of two things stand behind those of one; of all of one size the least is told.
        self.assertEqual(
            self.slowly(ANN, [given(SOME_CAT), clearly(0, CAT)], size=3), (2, (("Ann", 0),), (("cat", (1,)),), ()))
        self.assertEqual(
            self.slowly(SMALL, [given(("not", ("same", "Ann", "Bob"))), given(BOB), clearly(0, CAT)]),
            (2, (("Ann", 0), ("Bob", 1)), (("cat", (1,)), ("dog", ())), (("sees", ()),)))

    def test_more_things(self):
        for many in range(2, 6):
            lines = [given(at_least(many)), clearly(0, FALSE)]
            self.assertEqual(self.told(NONE, lines, size=many - 1), BEYOND)
            for size in (many, many + 1, 20):
                self.assertEqual(self.told(NONE, lines, size=size), (many, (), (), ()))
        cats = ("least", total(0, cat=1), total(3))
        self.assertEqual(self.slowly(ANN, [given(cats), clearly(0, ALL_CATS)], size=3), BEYOND)
        self.assertEqual(
            self.slowly(ANN, [given(cats), clearly(0, ALL_CATS)], size=4), (4, (("Ann", 0),), (("cat", (0, 1, 2)),), ()))
        self.assertEqual(
            self.slowly(ANN, [given(cats), clearly(0, CAT)], size=4), (4, (("Ann", 0),), (("cat", (1, 2, 3)),), ()))

    def test_none(self):
        for form in (ITSELF, ("same", "Ann", "Ann"), ("or", CAT, ("not", CAT)), ("if", ALL_CATS, CAT)):
            for size in (1, 2, 3):
                self.assertEqual(self.slowly(ANN, [clearly(0, form)], size=size), BEYOND)
        self.assertEqual(self.slowly(ANN, [given(CAT), clearly(0, CAT)], size=4), BEYOND)
        self.assertEqual(self.slowly(ANN, [given(FALSE), clearly(0, CAT)], size=4), BEYOND)
        self.assertEqual(self.slowly(ANN, [given(CAT), given(("not", CAT)), clearly(0, FALSE)], size=4), BEYOND)
        self.assertEqual(self.told(NONE, [clearly(0, FALSE)], size=0), BEYOND)

    def test_whatever_the_reason(self):
        for reason in (("given",), ("again", 1), ("by", (1,)), ("itself",), ("nothing", 2), ("clearly",), ("earlier", "no", ())):
            self.assertEqual(self.slowly(ANN, [given(("not", CAT)), (0, CAT, reason)]), (1, (("Ann", 0),), (("cat", ()),), ()))
            self.assertEqual(self.slowly(ANN, [given(CAT), (0, CAT, reason)]), BEYOND)

    def test_each_line_of_an_argument(self):
        lines = [given(SOME_CAT), clearly(0, CAT), clearly(0, DOG), clearly(0, ("not", CAT)), clearly(0, BOB)]
        one, two = "Ann", "Bob"
        self.assertEqual(self.slowly(SMALL, lines, 1), (1, ((one, 0), (two, 0)), (("cat", ()), ("dog", ())), (("sees", ()),)))
        self.assertEqual(self.slowly(SMALL, lines, 2), (2, ((one, 0), (two, 0)), (("cat", (1,)), ("dog", ())), (("sees", ()),)))
        self.assertEqual(self.slowly(SMALL, lines, 3), (1, ((one, 0), (two, 0)), (("cat", (0,)), ("dog", ())), (("sees", ()),)))
        self.assertEqual(self.slowly(SMALL, lines, 4), (1, ((one, 0), (two, 0)), (("cat", (0,)), ("dog", (0,))), (("sees", ()),)))
        self.assertEqual(self.slowly(SMALL, lines, 5), BEYOND)


class Openers(Asking):
    def test_names_sorted_among_the_others(self):
        lines = [given(("not", CAT)), (1, ("same", "Al", "Al"), ("any", "Al")), clearly(1, ("is", "Al", "cat")), clearly(0, CAT)]
        self.assertEqual(self.slowly(ANN, lines, 3), (1, (("Al", 0), ("Ann", 0)), (("cat", ()),), ()))
        lines = [given(CAT), (1, ("same", "Zed", "Zed"), ("any", "Zed")), clearly(1, ("is", "Zed", "cat")), clearly(0, CAT)]
        self.assertEqual(self.slowly(ANN, lines, 3), (2, (("Ann", 0), ("Zed", 1)), (("cat", (0,)),), ()))
        # Behind the box its name is gone.
        self.assertEqual(self.slowly(ANN, lines[:3] + [clearly(0, ALL_CATS)], 4), (2, (("Ann", 0),), (("cat", (0,)),), ()))

    def test_several_openers(self):
        lines = [
            given(SOME_CAT), (1, ("is", "Moe", "cat"), ("called", "Moe", 1)), supposed(2, ("not", ("same", "Moe", "Ann"))),
            (3, ("same", "Al", "Al"), ("any", "Al")), clearly(3, ("is", "Al", "cat")), clearly(3, ("same", "Al", "Moe")), clearly(0, CAT)]
        self.assertEqual(
            self.slowly(ANN, lines, 5), (2, (("Al", 0), ("Ann", 0), ("Moe", 1)), (("cat", (1,)),), ()))
        # Line 6 is open to line 5, too.
        self.assertEqual(
            self.slowly(ANN, lines, 6), (2, (("Al", 0), ("Ann", 0), ("Moe", 1)), (("cat", (0, 1)),), ()))
        # Line 7 is in none of these boxes: it is open to the given line alone.
        self.assertEqual(self.slowly(ANN, lines, 7), (2, (("Ann", 0),), (("cat", (1,)),), ()))

    def test_the_line_being_an_opener(self):
        # It has its own name, and its own form is what must not hold.
        lines = [given(SOME_CAT), (1, ("is", "Bo", "cat"), ("called", "Bo", 1)), clearly(0, CAT)]
        self.assertEqual(self.slowly(ANN, lines, 2), (2, (("Ann", 0), ("Bo", 0)), (("cat", (1,)),), ()))
        self.assertEqual(self.slowly(ANN, [(1, ("same", "Bo", "Bo"), ("any", "Bo")), clearly(0, CAT)], 1), BEYOND)
        self.assertEqual(self.slowly(ANN, [supposed(1, CAT), clearly(0, CAT)], 1), (1, (("Ann", 0),), (("cat", ()),), ()))
        # The box ahead of it is done: neither its name nor its lines play a part.
        lines = [(1, ("same", "Bo", "Bo"), ("any", "Bo")), supposed(2, CAT), supposed(1, CAT), clearly(0, CAT)]
        self.assertEqual(self.slowly(ANN, lines, 3), (1, (("Ann", 0),), (("cat", ()),), ()))

    def test_lines_to_which_it_is_not_open(self):
        lines = [supposed(1, ("not", CAT)), clearly(1, FALSE), supposed(1, CAT), clearly(0, CAT), clearly(0, FALSE)]
        self.assertEqual(self.slowly(ANN, lines, 4), (1, (("Ann", 0),), (("cat", ()),), ()))
        # Neither do lines behind it, nor itself.
        lines = [clearly(0, CAT), clearly(0, FALSE)]
        self.assertEqual(self.slowly(ANN, lines, 1), (1, (("Ann", 0),), (("cat", ()),), ()))
        self.assertEqual(self.slowly(ANN, lines, 2), (1, (("Ann", 0),), (("cat", (0,)),), ()))

    def test_all_before_it_holds(self):
        # What is supposed, and lines that aren't right.
        lines = [given(SOME_CAT), (0, CAT, ("again", 1)), supposed(1, BOB), clearly(1, ALL_CATS), clearly(0, CAT)]
        self.assertEqual(
            self.slowly(SMALL, lines, 4), (2, (("Ann", 0), ("Bob", 0)), (("cat", (0,)), ("dog", ())), (("sees", ()),)))


class Meanings(Asking):
    def test_a_thing_is_of_a_meanings_kind(self):
        pet = ("is", "Ann", "pet")
        self.assertEqual(
            self.slowly(SMALL, [given(pet), clearly(0, CAT)], meanings=MEANINGS),
            (1, (("Ann", 0), ("Bob", 0)), (("cat", ()), ("dog", (0,))), (("sees", ()),)))
        self.assertEqual(self.slowly(SMALL, [given(CAT), clearly(0, pet)], meanings=MEANINGS), BEYOND)
        self.assertEqual(
            self.slowly(SMALL, [clearly(0, ("every", "x", ("if", ("is", "x", "pet"), ("is", "x", "seer"))))], meanings=MEANINGS),
            (1, (("Ann", 0), ("Bob", 0)), (("cat", ()), ("dog", (0,))), (("sees", ()),)))
        self.assertEqual(
            self.slowly(SMALL, [given(("is", "Bob", "seer")), given(("not", ("is", "Bob", "pet"))), clearly(0, pet)], meanings=MEANINGS),
            (2, (("Ann", 0), ("Bob", 0)), (("cat", ()), ("dog", (1,))), (("sees", ((0, 0), (0, 1))),)))

    def test_the_world_has_no_meanings_kinds(self):
        # The vocabulary's kinds alone are told.
        told = self.slowly(SMALL, [clearly(0, ("is", "Ann", "wise"))], meanings=MEANINGS)
        self.assertEqual([kind for kind, _ in told[2]], ["cat", "dog"])

    def test_without_a_letter(self):
        told = (("odd", "z3", FALSE), ("even", "z4", ("not", ("is", "z4", "odd"))))
        self.assertEqual(self.slowly(ANN, [clearly(0, ("is", "Ann", "even"))], meanings=told, size=3), BEYOND)
        self.assertEqual(
            self.slowly(ANN, [clearly(0, ("is", "Ann", "odd"))], meanings=told, size=3), (1, (("Ann", 0),), (("cat", ()),), ()))

    def test_six_by_one_another(self):
        told = (("ka", "x1", ("is", "x1", "cat")),)
        for at, name in enumerate(("kb", "kc", "kd", "ke", "kf"), 2):
            before = told[-1][0]
            form = ("and", ("is", f"x{at}", before), ("some", f"y{at}", ("and", ("is", f"y{at}", before), ("not", ("same", f"x{at}", f"y{at}")))))
            told += ((name, f"x{at}", form),)
        lines = [given(CAT), clearly(0, ("not", ("is", "Ann", "kf")))]
        self.assertEqual(self.told(ANN, lines, meanings=told, size=4), (2, (("Ann", 0),), (("cat", (0, 1)),), ()))


class Bounds(Asking):
    def test_just_4096(self):
        # 2 + 4 + .. + 2 to the power of 11 are 4094 worlds; of names alone 1 + 2 + .. + 90 are 4095.
        lines = [given(("least", total(0, cat=1), total(11))), clearly(0, FALSE)]
        kind = ((), ("cat",), ())
        self.assertEqual(self.told(kind, lines, size=11), (11, (), (("cat", tuple(range(11))),), ()))
        self.great(8190, kind, lines, size=12)
        self.assertEqual(self.told((("Ann",), (), ()), [clearly(0, ITSELF)], size=90), BEYOND)
        self.great(4186, (("Ann",), (), ()), [clearly(0, ITSELF)], size=91)
        self.assertEqual(self.told(NONE, [clearly(0, ITSELF)], size=4096), BEYOND)
        self.great(4097, NONE, [clearly(0, ITSELF)], size=4097)
        self.assertEqual(self.told((tuple("ABCDEF"), tuple("k" + sign for sign in "abcdefghi"), ("da", "db", "dc")),
                                   [clearly(0, FALSE)], size=1)[0], 1)
        twelve = ((), tuple("k" + sign for sign in "abcdefghijkl"), ())
        self.assertEqual(self.told(twelve, [given(("every", "x", ("is", "x", "kl"))), clearly(0, FALSE)], size=1), (
            1, (), tuple((kind, (0,) if kind == "kl" else ()) for kind in twelve[1]), ()))
        self.great(4096 + 2 ** 24, twelve, [clearly(0, FALSE)], size=2)

    def test_where_a_small_size_alone_would_have_told_a_world(self):
        lines = [clearly(0, CAT)]
        self.assertEqual(self.told(SMALL[:2] + ((),), lines, size=3)[0], 1)
        self.great(4 * 256 + 8 + 9 * 2 ** 15, SMALL, lines, size=3)
        self.great(sum(2 ** (size * 3) for size in range(1, 6)), ((), ("cat", "cow", "dog"), ()), [clearly(0, FALSE)], size=5)

    def test_names_of_openers_count(self):
        lines = [(1, ("same", "Bo", "Bo"), ("any", "Bo")), clearly(1, ("is", "Bo", "cat")), clearly(0, ALL_CATS)]
        kind = ((), ("cat",), ())
        self.assertEqual(self.told(kind, lines, 3, 11), (1, (), (("cat", ()),), ()))
        self.great(sum(size * 2 ** size for size in range(1, 12)), kind, lines, 2, 11)
        self.assertEqual(self.told(kind, lines, 2, 8), (1, (("Bo", 0),), (("cat", ()),), ()))
        self.great(sum(size * 2 ** size for size in range(1, 10)), kind, lines, 2, 9)

    def test_great_sizes(self):
        sixty = (("Ann",), (), ())
        for size in (60, 90):
            self.assertEqual(
                self.told(sixty, [given(at_least(4)), clearly(0, FALSE)], size=size), (4, (("Ann", 0),), (), ()))
            self.assertEqual(self.told(sixty, [clearly(0, ("some", "x", ("same", "x", "Ann")))], size=size), BEYOND)
        three = ("every", "x", ("every", "y", ("every", "z", ("or", ("same", "x", "y"), ("or", ("same", "y", "z"), ("not", (
            "and", ("same", "x", "z"), ("same", "y", "z"))))))))
        self.assertEqual(self.told(sixty, [clearly(0, three)], size=90), BEYOND)
        pairs = (("Ann", "Bob"), (), ())
        self.assertEqual(self.told(pairs, [clearly(0, three)], size=22), BEYOND)
        self.great(sum(size ** 2 for size in range(1, 24)), pairs, [clearly(0, three)], size=23)

    def test_how_many_of_great_sizes(self):
        most = 10 ** 12 - 1
        self.great(most, NONE, [clearly(0, FALSE)], size=most)
        self.great(most * (most + 1) // 2, (("Ann",), (), ()), [clearly(0, FALSE)], size=most)
        self.great(most * (most + 1) * (2 * most + 1) // 6, (("Ann", "Bob"), (), ()), [clearly(0, FALSE)], size=most)
        six = (tuple("ABCDEF"), (), ())
        for size in (5, 6, 7, 8, 20, 100):
            self.great(sum(one ** 6 for one in range(1, size + 1)), six, [clearly(0, FALSE)], size=size)
        full = (tuple("ABCDEF"), tuple("k" + sign for sign in "abcdef"), ("da", "db", "dc"))
        for size in (2, 3, 20, 60):
            self.great(sum(number(full, one) for one in range(1, size + 1)), full, [clearly(0, FALSE)], size=size)


class AllWorlds(unittest.TestCase):
    """[3]: no lesser world keeps the lines and not the line, by all worlds of one and two things."""

    def worlds(self, argument, k):
        """All worlds against a line, in order, by bits."""
        lines, meanings = argument[2], argument[1]
        worlds = worlds_with(tuple(name for name in slow_names(argument, k) if name not in NAMES))
        forms = [slow_unfolded(meanings, lines[m - 1][1]) for m in slow_open_to(lines, k)]
        form = slow_unfolded(meanings, lines[k - 1][1])
        for size in (1, 2):
            kept = worlds.all[size] & ~worlds.bits(form, size, {})
            for one in forms:
                kept &= worlds.bits(one, size, {})
            for at, world in enumerate(worlds.worlds[size]):
                if kept >> at & 1:
                    yield world

    def look(self, argument, k, told):
        """The first world against line k is told; where there is none, none."""
        wanted = next(self.worlds(argument, k), None)
        self.assertEqual(against(argument, k, 2), BEYOND if wanted is None else wanted, (argument, k))
        told[wanted and wanted[0]] = told.get(wanted and wanted[0], 0) + 1

    def test_lines_by_chance(self):
        chance = random.Random(28)
        told = {}
        for _ in range(150):
            forms = [random_form(chance, chance.randrange(2, 5)) for _ in range(chance.randrange(1, 5))]
            lines = [given(form) for form in forms]
            names = NAMES
            if chance.random() < 0.5:
                lines.append((1, ("same", "Zed", "Zed"), ("any", "Zed")))
                names += ("Zed",)
            lines += [clearly(len(names) - 2, random_form(chance, 4, names)) for _ in range(2)] + [clearly(0, FALSE)]
            for k in range(1, len(lines) + 1):
                self.look((SMALL, (), tuple(lines)), k, told)
        self.assertGreater(min(told.get(key, 0) for key in (None, 1, 2)), 60, told)

    def test_arguments_that_are_let_by_and_bent_ones(self):
        chance = random.Random(280)
        told = {}
        for _ in range(40):
            argument = random_argument(chance, 10)
            for k in range(1, len(argument[2]) + 1):
                if argument[2][k - 1][2][0] not in ("given", "supposed", "called") and len(slow_names(argument, k)) <= 3:
                    # What follows from all before it has no world against it.
                    self.assertEqual(against(argument, k, 2), BEYOND)
            bent = bent_argument(chance, argument)
            for k in range(1, len(bent[2]) + 1):
                if is_argument(bent) and len(slow_names(bent, k)) <= 3:
                    self.look(bent, k, told)
        self.assertGreater(min(told.get(key, 0) for key in (None, 1)), 20, told)

    def test_small_vocabularies_slowly(self):
        chance = random.Random(281)
        words = ("not", "and", "or", "if", "every", "some", "same", "is")
        told = {}
        for _ in range(60):
            lines = []
            for level in (0, 0, 0):
                form = random_form(chance, 4, ("Ann",), words, ("cat",))
                if "dog" not in repr(form) and "sees" not in repr(form):
                    lines.append(clearly(level, form))
            for k in range(1, len(lines) + 1):
                argument = (ANN, (), tuple(lines))
                world = against(argument, k, 4)
                self.assertEqual(world, slow_against(argument, k, 4))
                told[world[0]] = told.get(world[0], 0) + 1
        self.assertGreater(len(told), 2)


if __name__ == "__main__":
    unittest.main()

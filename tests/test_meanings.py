"""[34], of [13]: meanings put in place, in forms, arguments and worlds."""

import random
import unittest

from linecourt.arguments import is_argument
from linecourt.checker import lets_by
from linecourt.forms import parts_of
from linecourt.meanings import in_place, unfolded, world_with
from linecourt.truths import holds
from linecourt.worlds import is_world, worlds_of
from tests.arguing import MEANINGS, random_argument, worlds_with
from tests.making import FALSE, SMALL, put, random_form
from tests.slowcourt import slow_unfolded
from tests.test_lines import slow_openers

CAT, DOG = ("is", "Ann", "cat"), ("is", "Ann", "dog")
PET = MEANINGS[:1]


def a(term, kind):
    return ("is", term, kind)


def pet(term):
    return ("or", a(term, "cat"), a(term, "dog"))


def seer(term):
    return ("some", "z7", ("and", ("does", "sees", term, "z7"), pet("z7")))


def wise(term):
    return ("if", pet(term), ("and", seer(term), pet("Bob")))


class Unfolded(unittest.TestCase):
    def test_with_a_name(self):
        self.assertEqual(unfolded(PET, a("Ann", "pet")), pet("Ann"))
        self.assertEqual(unfolded(PET, a("Bob", "pet")), pet("Bob"))
        self.assertEqual(unfolded(PET, ("not", a("Ann", "pet"))), ("not", pet("Ann")))
        self.assertEqual(unfolded(PET, ("if", a("Ann", "pet"), a("Bob", "pet"))), ("if", pet("Ann"), pet("Bob")))

    def test_without_meanings(self):
        for form in (CAT, ("same", "Ann", "Bob"), ("least", ((("cat", 1),), 0), ((), 2)), FALSE, ("every", "x", a("x", "dog")),
                     ("does", "sees", "Ann", "Bob")):
            self.assertEqual(unfolded((), form), form)
            self.assertEqual(unfolded(MEANINGS, form), form)
        self.assertEqual(unfolded((), a("Ann", "pet")), a("Ann", "pet"))

    def test_with_a_letter_bound_around(self):
        for letter in ("x", "y", "u9"):
            self.assertEqual(unfolded(PET, ("every", letter, a(letter, "pet"))), ("every", letter, pet(letter)))
            self.assertEqual(
                unfolded(MEANINGS, ("some", letter, ("and", a(letter, "seer"), a("Ann", "pet")))),
                ("some", letter, ("and", seer(letter), pet("Ann"))))
        self.assertEqual(unfolded(PET, ("every", "x", ("some", "x", a("x", "pet")))), ("every", "x", ("some", "x", pet("x"))))

    def test_a_meaning_by_another_one(self):
        self.assertEqual(unfolded(MEANINGS, a("Ann", "seer")), seer("Ann"))
        self.assertEqual(unfolded(MEANINGS, a("Ann", "wise")), wise("Ann"))
        self.assertEqual(unfolded(MEANINGS, ("every", "y", a("y", "wise"))), ("every", "y", wise("y")))

    def test_without_its_letter(self):
        told = (("ever", "x1", ("same", "Ann", "Ann")), ("never", "x2", ("not", a("Bob", "ever"))))
        self.assertEqual(unfolded(told, a("Bob", "never")), ("not", ("same", "Ann", "Ann")))
        self.assertEqual(unfolded(told, ("every", "x", a("x", "never"))), ("every", "x", ("not", ("same", "Ann", "Ann"))))

    def test_its_letter_bound_once_more(self):
        told = (("odd", "x1", ("and", a("x1", "cat"), ("every", "x1", a("x1", "dog")))),)
        self.assertEqual(unfolded(told, a("Ann", "odd")), ("and", CAT, ("every", "x1", a("x1", "dog"))))

    def six(self, inner):
        """Six meanings, each by the one ahead."""
        told = [("aa", "x0", a("x0", "cat"))]
        for at, kind in enumerate(("bb", "cc", "dd", "ee", "ff"), 1):
            told.append((kind, f"x{at}", inner(f"x{at}", told[-1][0])))
        return tuple(told)

    def test_six_one_by_another(self):
        told = self.six(lambda x, kind: ("not", a(x, kind)))
        form = CAT
        for _ in range(5):
            form = ("not", form)
        self.assertEqual(unfolded(told, a("Ann", "ff")), form)
        told = self.six(lambda x, kind: ("and", a(x, kind), ("or", a("Bob", kind), a(x, kind))))
        self.assertEqual(unfolded(told, a("Ann", "ff")), slow_unfolded(told, a("Ann", "ff")))
        self.assertEqual(len(parts_of(unfolded(told, a("Ann", "ff")))), 3 ** 5 + 3 ** 5 - 1)

    def test_very_many_places(self):
        def wide(x, kind):
            form = a(x, kind)
            for _ in range(5):
                form = ("and", form, form)
            return form

        told = self.six(wide)
        # 32 to the power of 5 places: it can be told, and found to be alike, but not walked through.
        form = unfolded(told, a("Ann", "ff"))
        self.assertEqual(form[0], "and")
        argument = (SMALL, told, ((0, a("Ann", "ff"), ("given",)), (0, put(told[-1][2], "x5", "Ann"), ("meaning", 1))))
        self.assertTrue(lets_by(argument))
        self.assertFalse(lets_by(argument[:2] + (argument[2][:1] + ((0, put(told[-1][2], "x5", "Bob"), ("meaning", 1)),),)))

    def test_by_chance(self):
        chance = random.Random(34)
        for _ in range(400):
            form = random_form(chance, 5, kinds=("cat", "dog", "pet", "seer", "wise"))
            self.assertEqual(unfolded(MEANINGS, form), slow_unfolded(MEANINGS, form))
            self.assertEqual(unfolded(MEANINGS, unfolded(MEANINGS, form)), unfolded(MEANINGS, form))


class InPlace(unittest.TestCase):
    ARGUMENT = (SMALL, MEANINGS, (
        (0, a("Ann", "pet"), ("given",)), (0, pet("Ann"), ("meaning", 1)), (0, ("or", pet("Ann"), CAT), ("orleft", 2)),
        (1, a("Ann", "seer"), ("supposed",)), (1, seer("Ann"), ("meaning", 4)), (0, ("if", a("Ann", "seer"), seer("Ann")), ("soif", 4)),
        (0, ("and", a("Ann", "pet"), a("Ann", "pet")), ("both", 1, 1)), (0, a("Ann", "pet"), ("clearly",)),
    ))

    def test_lines(self):
        self.assertEqual(in_place(self.ARGUMENT), (SMALL, (), (
            (0, pet("Ann"), ("given",)), (0, pet("Ann"), ("again", 1)), (0, ("or", pet("Ann"), CAT), ("orleft", 2)),
            (1, seer("Ann"), ("supposed",)), (1, seer("Ann"), ("again", 4)), (0, ("if", seer("Ann"), seer("Ann")), ("soif", 4)),
            (0, ("and", pet("Ann"), pet("Ann")), ("both", 1, 1)), (0, pet("Ann"), ("clearly",)),
        )))
        self.assertTrue(is_argument(in_place(self.ARGUMENT)))

    def test_let_by_where_it_was(self):
        good = self.ARGUMENT[:2] + (self.ARGUMENT[2][:-1],)
        self.assertTrue(lets_by(good))
        self.assertTrue(lets_by(in_place(good)))

    def test_without_meanings(self):
        argument = (SMALL, (), ((0, CAT, ("given",)), (0, CAT, ("meaning", 1)), (0, CAT, ("by", (1,)))))
        self.assertEqual(in_place(argument), (SMALL, (), ((0, CAT, ("given",)), (0, CAT, ("again", 1)), (0, CAT, ("by", (1,))))))

    def test_other_reasons_stay(self):
        reasons = (("sums", (1,), (2,)), ("earlier", "meaning", (1,)), ("at", 1, "Ann"), ("itself",), ("cases", 1, 1, 1), ("clearly",))
        for reason in reasons:
            argument = (SMALL, MEANINGS, ((0, CAT, ("given",)), (0, a("Ann", "pet"), reason)))
            self.assertEqual(in_place(argument), (SMALL, (), ((0, CAT, ("given",)), (0, pet("Ann"), reason))))

    def test_by_chance(self):
        chance = random.Random(341)
        for _ in range(60):
            argument = random_argument(chance, 12, MEANINGS)
            told = in_place(argument)
            self.assertTrue(is_argument(told))
            self.assertTrue(lets_by(told), argument)
            self.assertEqual(told[:2], (SMALL, ()))
            for k, (line, other) in enumerate(zip(argument[2], told[2]), 1):
                self.assertEqual(line[0], other[0])
                self.assertEqual(other[2], ("again",) + line[2][1:] if line[2][0] == "meaning" else line[2])
                self.assertEqual(other[1], slow_unfolded(MEANINGS, line[1]))
                self.keeps(chance, argument, k, line[1], other[1])

    def keeps(self, chance, argument, k, one, other):
        """A world keeps a line just where it keeps the one with its meanings put in place."""
        opened = [argument[2][i - 1][2] for i in slow_openers(argument[2], k)]
        worlds = worlds_with(tuple(sorted(reason[1] for reason in opened if reason[0] != "supposed"))).worlds
        for size in (1, 2):
            world = chance.choice(worlds[size])
            self.assertIs(holds(world_with(world, MEANINGS), one), holds(world, other))


class WorldWith(unittest.TestCase):
    WORLD = (3, (("Ann", 0), ("Bob", 2)), (("cat", (0,)), ("dog", (0, 1))), (("sees", ((0, 2), (2, 1))),))

    def test_kinds_in_order(self):
        told = world_with(self.WORLD, MEANINGS)
        self.assertEqual(told, (3, self.WORLD[1], (
            ("cat", (0,)), ("dog", (0, 1)), ("pet", (0, 1)), ("seer", (2,)), ("wise", (2,))), self.WORLD[3]))
        self.assertTrue(is_world((SMALL[0], ("cat", "dog", "pet", "seer", "wise"), SMALL[2]), told))
        front = (("ant", "x1", ("not", a("x1", "cat"))), ("cow", "x2", ("same", "x2", "Bob")))
        self.assertEqual(world_with(self.WORLD, front)[2], (("ant", (1, 2)), ("cat", (0,)), ("cow", (2,)), ("dog", (0, 1))))

    def test_none(self):
        self.assertEqual(world_with(self.WORLD, ()), self.WORLD)

    def test_all_things_or_none(self):
        told = (("ever", "x1", ("same", "Ann", "Ann")), ("never", "x2", FALSE), ("odd", "x3", ("every", "x3", a("x3", "cat"))))
        self.assertEqual(world_with(self.WORLD, told)[2][2:], (("ever", (0, 1, 2)), ("never", ()), ("odd", ())))

    def test_many_things(self):
        world = (60, (), (("cat", tuple(range(0, 60, 2))),), ())
        told = (("odd", "x1", ("not", a("x1", "cat"))), ("two", "x2", ("some", "y2", ("and", ("same", "x2", "y2"), a("y2", "odd")))))
        odd = tuple(range(1, 60, 2))
        self.assertEqual(world_with(world, told)[2], (("cat", world[2][0][1]), ("odd", odd), ("two", odd)))

    def test_each_thing_as_the_meaning_tells(self):
        chance = random.Random(13)
        worlds = worlds_of(SMALL, 1) + worlds_of(SMALL, 2)
        for world in chance.sample(worlds, 60) + [self.WORLD]:
            kinds = dict(world_with(world, MEANINGS)[2])
            for kind, x, form in MEANINGS:
                # A name for each thing: of a world of one name more.
                for thing in range(world[0]):
                    named = (world[0], world[1] + (("Zed", thing),)) + world[2:]
                    self.assertIs(thing in kinds[kind], holds(named, slow_unfolded(MEANINGS, put(form, x, "Zed"))))
            for kind, things in world[2]:
                self.assertEqual(kinds[kind], things)


if __name__ == "__main__":
    unittest.main()

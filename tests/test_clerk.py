"""[24], [26]: by which plain rule a line is right, and what is reached in some steps."""

import itertools
import random
import unittest

from linecourt.arguments import is_argument
from linecourt.clerk import by_rule, reached
from linecourt.errors import TooGreat
from tests.arguing import GIVENS, MEANINGS, random_argument, slow_reached
from tests.making import FALSE, NAMES, SMALL, SMALL_WORLDS, given, random_form
from tests.slowcourt import PLAIN as PLAIN_WORDS
from tests.slowcourt import slow_by_rule
from tests.test_checker import PLAIN
from tests.test_known import simple

CAT, DOG, BOB = ("is", "Ann", "cat"), ("is", "Ann", "dog"), ("is", "Bob", "cat")
SOME_CAT = ("some", "x", ("is", "x", "cat"))
ZED = ("same", "Zed", "Zed")
LOOK = ("does", "sees", "x", "y")
# From these, with two names, there are 200 forms known; with one form more they are too many.
FULL = simple(200)


class ByRule(unittest.TestCase):
    def told(self, lines, meanings=()):
        """The small reason of the last line, or that which is followed by the end of its boxes."""
        k = len(lines)
        argument = (SMALL, meanings, tuple(lines) + ((given(CAT),) if lines[-1][0] else ()))
        self.assertTrue(is_argument(argument), lines)
        told = by_rule(argument, k)
        self.assertEqual(told, slow_by_rule(argument, k), lines)
        return told

    def by(self, form, ks, *forms):
        return self.told([given(one) for one in forms] + [(0, form, ("by", ks))])

    def test_each_rule(self):
        firsts = {"meaning": "again"}
        for word, form, forms, rest in PLAIN:
            numbers = tuple(range(1, len(forms) + 1))
            self.assertEqual(self.by(form, numbers, *forms), (firsts.get(word, word),) + numbers + rest)

    def test_all_rules_are_tried(self):
        self.assertEqual(sorted(word for word, *_ in PLAIN), sorted(PLAIN_WORDS))

    def test_any_order_of_the_numbers(self):
        for word, form, forms, rest in PLAIN:
            if len(forms) > 1:
                turned = forms[1:] + forms[:1]
                numbers = (len(forms),) + tuple(range(1, len(forms)))
                self.assertEqual(self.by(form, tuple(range(1, len(forms) + 1)), *turned), (word,) + numbers)
                self.assertEqual(self.by(form, tuple(range(len(forms), 0, -1)), *turned), (word,) + numbers)

    def test_each_order_of_three(self):
        cats, forms = ("least", ((("cat", 1),), 0), ((), 2)), (CAT, BOB, ("not", ("same", "Ann", "Bob")))
        for places in itertools.permutations(range(3)):
            # The forms stand in another order, and are told in each order.
            rows = tuple(forms[place] for place in places)
            wanted = tuple(rows.index(form) + 1 for form in forms)
            for ks in itertools.permutations((1, 2, 3)):
                self.assertEqual(self.by(cats, ks, *rows), ("two",) + wanted)

    def test_another_reason(self):
        for reason in (("again", 1), ("clearly",), ("itself",), ("sums", (1,), (1,))):
            self.assertIsNone(by_rule((SMALL, (), (given(CAT), (0, CAT, reason))), 2))

    def test_the_first_rule(self):
        self.assertEqual(self.by(CAT, (1,), CAT), ("again", 1))
        self.assertEqual(self.by(CAT, (1,), ("and", CAT, CAT)), ("left", 1))
        self.assertEqual(self.by(("or", CAT, CAT), (1,), CAT), ("orleft", 1))
        self.assertEqual(self.by(("or", FALSE, CAT), (1,), FALSE), ("orleft", 1))
        self.assertEqual(self.by(("or", CAT, FALSE), (1,), FALSE), ("orright", 1))
        self.assertEqual(self.by(FALSE, (1,), FALSE), ("again", 1))
        self.assertEqual(self.by(("some", "x", FALSE), (1,), FALSE), ("nothing", 1))
        self.assertEqual(self.by(("and", ("same", "Ann", "Ann"), CAT), (1, 2), ("same", "Ann", "Ann"), CAT), ("both", 1, 2))
        self.assertEqual(self.by(("every", "x", CAT), (1,), ("every", "x", ("every", "x", CAT))), ("at", 1, "Ann"))

    def test_the_first_order(self):
        self.assertEqual(self.by(("and", CAT, CAT), (1, 2), CAT, CAT), ("both", 1, 2))
        self.assertEqual(self.by(("and", CAT, CAT), (2, 1), CAT, CAT), ("both", 2, 1))
        self.assertEqual(self.by(("and", CAT, CAT), (1, 1), CAT), ("both", 1, 1))
        same = (("same", "Ann", "Bob"), ("same", "Bob", "Ann"))
        self.assertEqual(self.by(("same", "Bob", "Bob"), (1, 2), *same), ("put", 1, 2))
        self.assertEqual(self.by(("same", "Bob", "Bob"), (2, 1), *same), ("put", 1, 2))
        self.assertEqual(self.by(("same", "Ann", "Ann"), (1, 2), *same), ("put", 2, 1))
        self.assertEqual(self.by(("same", "Ann", "Bob"), (1, 2), *same), ("put", 2, 1))
        # Three lines of which two are alike.
        three = (CAT, CAT, ("not", ("same", "Ann", "Ann")))
        cats = ("least", ((("cat", 1),), 0), ((), 2))
        self.assertEqual(self.by(cats, (1, 2, 3), *three), ("two", 1, 2, 3))
        self.assertEqual(self.by(cats, (2, 1, 3), *three), ("two", 2, 1, 3))
        self.assertEqual(self.by(cats, (3, 2, 1), *three), ("two", 2, 1, 3))
        self.assertEqual(self.by(cats, (2, 3, 1), *three), ("two", 2, 1, 3))

    def test_the_first_name(self):
        self.assertEqual(self.by(DOG, (1,), ("every", "x", DOG)), ("at", 1, "Ann"))
        self.assertEqual(self.by(("some", "x", DOG), (1,), DOG), ("such", 1, "Ann"))
        self.assertEqual(self.by(BOB, (1,), ("every", "x", ("is", "x", "cat"))), ("at", 1, "Bob"))
        self.assertEqual(self.by(SOME_CAT, (1,), BOB), ("such", 1, "Bob"))
        self.assertEqual(
            self.by(("some", "x", ("does", "sees", "x", "x")), (1,), ("does", "sees", "Bob", "Bob")), ("such", 1, "Bob"))

    def test_names_of_openers(self):
        opened = [given(("every", "x", ("same", "x", "x"))), (1, ("same", "Zed", "Zed"), ("any", "Zed")),
                  (2, ("same", "Abe", "Abe"), ("any", "Abe"))]
        self.assertEqual(self.told(opened + [(2, ("same", "Abe", "Abe"), ("by", (1,)))]), ("at", 1, "Abe"))
        self.assertEqual(self.told(opened + [(2, ZED, ("by", (1,)))]), ("at", 1, "Zed"))
        self.assertEqual(self.told(opened + [(1, ZED, ("by", (1,)))]), ("at", 1, "Zed"))
        # No name of the vocabulary: the openers' from the outermost on.
        nameless = ((), SMALL[1], SMALL[2])
        lines = ((0, ("every", "x", FALSE), ("given",)),) + tuple(opened[1:]) + ((2, FALSE, ("by", (1,))), (0, FALSE, ("by", (1,))))
        self.assertEqual(by_rule((nameless, (), lines), 4), ("at", 1, "Zed"))
        self.assertIsNone(by_rule((nameless, (), lines), 5))

    def test_none(self):
        self.assertIsNone(self.by(DOG, (1,), CAT))
        self.assertIsNone(self.by(CAT, (1, 2), CAT, CAT))
        self.assertIsNone(self.by(CAT, (1, 1), CAT))
        self.assertIsNone(self.by(("and", CAT, DOG), (1,), CAT))
        self.assertIsNone(self.by(("and", CAT, DOG), (1, 2, 2), CAT, DOG))
        self.assertIsNone(self.by(FALSE, (1, 2, 3), CAT, ("not", CAT), DOG))
        self.assertIsNone(self.by(("same", "Ann", "Ann"), (1,), CAT))
        self.assertIsNone(self.by(("least", ((), 0), ((), 0)), (1,), ("least", ((), 1), ((), 0))))
        self.assertIsNone(self.by(("if", CAT, CAT), (1,), CAT))

    def test_lines_to_which_it_is_not_open(self):
        self.assertIsNone(self.told([(1, CAT, ("supposed",)), (0, CAT, ("by", (1,)))]))
        self.assertIsNone(self.told([given(CAT), (1, DOG, ("supposed",)), (0, ("and", CAT, DOG), ("by", (1, 2)))]))
        self.assertIsNone(self.told([(0, CAT, ("by", (1,)))]))
        self.assertIsNone(by_rule((SMALL, (), ((0, CAT, ("by", (2,))), given(CAT))), 1))
        self.assertEqual(self.told([given(CAT), (1, DOG, ("supposed",)), (1, ("and", CAT, DOG), ("by", (2, 1)))]), ("both", 1, 2))

    def test_meanings(self):
        pet = ("or", CAT, DOG)
        lines = [given(("is", "Ann", "pet")), (0, pet, ("by", (1,)))]
        self.assertEqual(self.told(lines, MEANINGS), ("meaning", 1))
        self.assertEqual(self.told([given(pet), (0, ("is", "Ann", "pet"), ("by", (1,)))], MEANINGS), ("meaning", 1))
        self.assertIsNone(self.told([given(("is", "Bob", "pet")), (0, pet, ("by", (1,)))], MEANINGS))

    def test_by_chance(self):
        chance = random.Random(24)
        filled = {}
        for _ in range(60):
            vocabulary, meanings, lines = random_argument(chance, 14)
            for k, (level, form, reason) in enumerate(lines, 1):
                numbers = [piece for piece in reason[1:] if isinstance(piece, int)]
                if numbers and reason[0] in PLAIN_WORDS:
                    chance.shuffle(numbers)
                    if chance.random() < 0.2:
                        form = chance.choice(lines)[1]
                    argument = (vocabulary, meanings, lines[:k - 1] + ((level, form, ("by", tuple(numbers))),) + lines[k:])
                    if is_argument(argument):
                        told = by_rule(argument, k)
                        self.assertEqual(told, slow_by_rule(argument, k))
                        word = told[0] if told else None
                        filled[word] = filled.get(word, 0) + 1
        self.assertGreater(len(filled), 15)
        self.assertGreater(filled[None], 5)


class Reached(unittest.TestCase):
    def told(self, names, forms, goal, deep):
        told = reached(names, forms, goal, deep)
        self.assertIs(told, slow_reached(names, forms, goal, deep), (names, forms, goal, deep))
        return told

    def needs(self, deep, goal, *forms, names=NAMES):
        """The goal is reached in so many steps, and in no fewer."""
        for fewer in range(deep):
            self.assertIs(self.told(names, forms, goal, fewer), False, (goal, forms, fewer))
        for more in range(deep, 6):
            self.assertIs(self.told(names, forms, goal, more), True, (goal, forms, more))

    def never(self, goal, *forms, names=NAMES):
        for deep in range(6):
            self.assertIs(self.told(names, forms, goal, deep), False, (goal, forms, deep))

    def test_known(self):
        self.needs(0, CAT, CAT)
        self.needs(0, CAT, ("and", DOG, ("and", CAT, DOG)))
        self.needs(0, DOG, ("if", CAT, DOG), CAT)
        self.needs(0, BOB, ("every", "x", ("is", "x", "cat")))
        self.needs(0, ("or", CAT, DOG), ("or", CAT, DOG))
        self.never(CAT)
        self.never(CAT, DOG)
        self.never(CAT, ("or", CAT, CAT))
        self.never(("is", "Zed", "cat"), ("every", "x", ("is", "x", "cat")))
        self.never(("same", "Ann", "Ann"))

    def test_false_known(self):
        for goal in (CAT, FALSE, ("and", CAT, DOG), ("every", "x", LOOK), ("not", CAT)):
            self.needs(0, goal, FALSE)
            self.needs(0, goal, DOG, ("not", DOG))
            self.needs(0, goal, ("if", DOG, FALSE), DOG)

    def test_and(self):
        self.needs(1, ("and", CAT, DOG), CAT, DOG)
        self.needs(2, ("and", ("and", CAT, DOG), DOG), CAT, DOG)
        self.needs(2, ("and", CAT, ("and", CAT, DOG)), CAT, DOG)
        self.never(("and", CAT, DOG), CAT)
        self.never(("and", CAT, DOG), DOG)

    def test_or(self):
        self.needs(1, ("or", CAT, DOG), CAT)
        self.needs(1, ("or", CAT, DOG), DOG)
        self.needs(3, ("or", ("or", BOB, ("or", BOB, CAT)), BOB), CAT)
        self.never(("or", CAT, DOG))
        self.never(("or", CAT, ("not", CAT)))

    def test_some(self):
        self.needs(1, SOME_CAT, CAT)
        self.needs(1, SOME_CAT, BOB)
        self.needs(1, ("some", "x", DOG), DOG)
        self.never(("some", "x", DOG), DOG, names=())
        self.never(SOME_CAT, ("is", "Zed", "cat"))
        self.needs(1, SOME_CAT, ("is", "Zed", "cat"), names=NAMES + ("Zed",))
        self.needs(2, ("some", "x", ("some", "y", LOOK)), ("does", "sees", "Bob", "Ann"))
        self.never(("some", "x", ("does", "sees", "x", "x")), ("does", "sees", "Bob", "Ann"))

    def test_if(self):
        self.needs(1, ("if", CAT, CAT))
        self.needs(1, ("if", CAT, DOG), DOG)
        self.needs(1, ("if", CAT, DOG), ("not", CAT))
        self.needs(2, ("if", CAT, ("if", DOG, BOB)), ("if", ("is", "Ann", "cat"), BOB))
        self.needs(1, ("if", FALSE, CAT))
        self.never(("if", CAT, DOG), ("if", DOG, CAT))
        self.needs(4, ("if", CAT, ("if", DOG, ("if", BOB, ("and", CAT, BOB)))))

    def test_not(self):
        self.needs(1, ("not", FALSE))
        self.needs(1, ("not", CAT), ("if", CAT, FALSE))
        self.needs(1, ("not", ("not", CAT)), CAT)
        self.needs(1, ("not", ("and", CAT, ("not", CAT))))
        self.never(("not", CAT), DOG)
        self.never(CAT, ("not", ("not", CAT)))

    def test_every(self):
        every = ("every", "x", ("is", "x", "cat"))
        self.needs(1, ("every", "y", ("is", "y", "cat")), every)
        self.needs(0, every, every)
        self.needs(1, ("every", "y", ("same", "y", "y")))
        self.never(("every", "y", ("same", "y", "Ann")))
        self.never(every, CAT, BOB)
        dogs = ("every", "x", ("if", ("is", "x", "dog"), ("is", "x", "cat")))
        self.needs(1, ("every", "y", ("if", ("is", "y", "dog"), ("is", "y", "cat"))), dogs)
        self.needs(2, ("every", "y", ("if", ("is", "y", "dog"), ("does", "sees", "y", "y"))), dogs, ("every", "x", ("if", ("is", "x", "cat"), (
            "does", "sees", "x", "x"))))
        self.needs(2, ("every", "x", ("every", "y", ("is", "y", "cat"))), every)
        # The new name is among the names: the last.
        self.needs(2, ("every", "x", ("some", "y", ("same", "y", "x"))))
        self.needs(2, ("every", "x", ("some", "y", ("same", "y", "y"))), names=())
        self.needs(4, ("every", "x", ("every", "y", ("some", "z", ("and", ("same", "z", "z"), CAT)))), CAT)

    def test_a_new_name_is_in_nothing_else(self):
        singles = tuple("ABCDEFGHIJKLMNOPQRSTUVWXYZ")
        all_things = ("every", "x", ("is", "x", "cat"))
        # A name of the forms alone, and of the goal alone, must not be taken for any thing.
        for name in singles + ("Ann", "Nn", "Aa", "Na", "New", "Any"):
            self.never(all_things, ("is", name, "cat"))
            self.never(("every", "x", ("same", "x", name)))
            self.never(("every", "x", ("if", ("is", name, "cat"), ("is", "x", "cat"))))
        self.never(all_things, *(("is", name, "cat") for name in singles), names=())
        self.never(all_things, names=singles)
        self.never(("every", "x", ("every", "y", ("same", "x", "y"))))

    def test_nothing_else(self):
        self.never(("is", "Ann", "cat"), ("same", "Ann", "Bob"), BOB)
        self.never(("least", ((("cat", 1),), 0), ((), 1)), CAT)
        self.never(CAT, ("or", CAT, CAT))
        self.never(CAT, ("some", "x", CAT))

    def test_four_steps_by_itself(self):
        deep = CAT
        for at in range(1, 7):
            deep = ("or", deep, DOG)
            self.assertIs(reached(NAMES, (CAT,), deep), at <= 4)

    def test_by_chance(self):
        chance = random.Random(26)
        told = {True: 0, False: 0}
        for _ in range(500):
            forms = tuple(
                chance.choice(GIVENS) if chance.random() < 0.4 else random_form(chance, 4) for _ in range(chance.randrange(5)))
            goal = random_form(chance, 5, words=("not", "and", "or", "if", "every", "some"))
            if forms and chance.random() < 0.5:
                word = chance.choice(("and", "or", "if"))
                goal = (word, goal, chance.choice(forms)) if chance.random() < 0.5 else (word, chance.choice(forms), goal)
            deep = chance.randrange(5)
            try:
                wanted = slow_reached(NAMES, forms, goal, deep)
            except TooGreat as refusal:
                with self.assertRaises(TooGreat) as caught:
                    reached(NAMES, forms, goal, deep)
                self.assertEqual(caught.exception.many, refusal.many)
                continue
            self.assertIs(reached(NAMES, forms, goal, deep), wanted, (forms, goal, deep))
            told[wanted] += 1
            if wanted:
                self.assertTrue(SMALL_WORLDS.follows(goal, forms), (forms, goal))
        self.assertGreater(min(told.values()), 100)


class TooMany(unittest.TestCase):
    def refused(self, forms, goal, many, deep=4, names=NAMES):
        with self.assertRaises(TooGreat) as caught:
            reached(names, forms, goal, deep)
        self.assertEqual((caught.exception.many, caught.exception.most), (many, 200))
        with self.assertRaises(TooGreat):
            slow_reached(names, forms, goal, deep)

    def fine(self, forms, goal, wanted, deep=4):
        self.assertIs(reached(NAMES, forms, goal, deep), wanted)
        self.assertIs(slow_reached(NAMES, forms, goal, deep), wanted)

    def test_at_once(self):
        self.refused(FULL + (CAT,), CAT, 201, 0)
        self.refused(FULL + (FALSE,), CAT, 201)
        self.refused(FULL + (CAT,), ("or", CAT, DOG), 201)
        self.fine(FULL, FULL[0], True)
        self.fine(FULL, CAT, False)

    def test_within(self):
        self.refused(FULL, ("if", CAT, DOG), 201, 1)
        self.refused(FULL, ("not", CAT), 201, 1)
        self.refused(FULL, ("every", "x", ("is", "x", "cat")), 201, 1)
        self.refused(FULL, ("if", ("and", CAT, DOG), FULL[0]), 203, 1)
        self.fine(FULL, ("if", CAT, DOG), False, 0)
        self.fine(FULL, ("if", FULL[0], FULL[1]), True)
        self.fine(FULL, ("if", FULL[0], CAT), False)

    def test_no_further_than_needed(self):
        great = ("if", CAT, DOG)
        self.fine(FULL, ("or", FULL[0], great), True)
        self.refused(FULL, ("or", great, FULL[0]), 201)
        self.refused(FULL, ("or", CAT, great), 201)
        self.fine(FULL, ("and", CAT, great), False)
        self.refused(FULL, ("and", great, CAT), 201)
        self.refused(FULL, ("and", FULL[0], great), 201)
        self.fine(FULL, ("and", CAT, great), False)
        self.fine(FULL, ("or", CAT, great), False, 1)
        # The first name is tried first.
        some = ("some", "x", ("or", ("same", "x", FULL[0][2]), ("if", ("is", "x", "cat"), CAT)))
        first, other = FULL[0][1], "Zed"
        self.assertIs(reached((first, other), FULL, some, 4), True)
        self.refused(FULL, some, 201, names=(other, first))

    def test_too_many_by_a_new_name(self):
        # A name more makes one form more of each every.
        forms = simple(196) + (("every", "x", ("is", "x", "cat")),)
        self.fine(forms, CAT, True)
        self.refused(forms, ("every", "x", ("is", "x", "dog")), 201)


if __name__ == "__main__":
    unittest.main()

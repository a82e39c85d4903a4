"""[31], of [3]: the least givens from which a goal is reached; Lacks, TooGreat."""

import random
import unittest

from linecourt.clerk import reached
from linecourt.errors import Lacks, TooGreat
from linecourt.least import least_givens
from tests.arguing import slow_reached
from tests.making import FALSE, NAMES, SMALL_WORLDS, random_form
from tests.test_clerk import FULL
from tests.test_known import simple

CAT, DOG, BOB = ("is", "Ann", "cat"), ("is", "Ann", "dog"), ("is", "Bob", "cat")
ALL_CATS, SOME_CAT = ("every", "x", ("is", "x", "cat")), ("some", "x", ("is", "x", "cat"))


def slow_least(names, forms, goal):
    if not slow_reached(names, forms, goal):
        raise Lacks(0)
    out = set()
    for at in reversed(range(len(forms))):
        if slow_reached(names, tuple(form for k, form in enumerate(forms) if k not in out | {at}), goal):
            out.add(at)
    return tuple(at for at in range(len(forms)) if at not in out)


class Least(unittest.TestCase):
    def told(self, wanted, goal, *forms, names=NAMES):
        told = least_givens(names, forms, goal)
        self.assertIsInstance(told, tuple)
        self.assertEqual(told, wanted)
        self.assertEqual(told, slow_least(names, forms, goal))
        self.none_can_be_left_out(names, forms, goal, told)

    def none_can_be_left_out(self, names, forms, goal, told):
        self.assertIs(reached(names, tuple(forms[at] for at in told), goal), True)
        for out in told:
            self.assertIs(reached(names, tuple(forms[at] for at in told if at != out), goal), False)

    def lacks(self, goal, *forms, names=NAMES):
        with self.assertRaises(Lacks) as caught:
            least_givens(names, forms, goal)
        self.assertEqual(caught.exception.line, 0)

    def test_one(self):
        self.told((0,), CAT, CAT)
        self.told((1,), CAT, DOG, CAT, BOB)
        self.told((2,), SOME_CAT, DOG, DOG, BOB)
        self.told((1,), DOG, CAT, FALSE, BOB)

    def test_several(self):
        self.told((0, 2), DOG, CAT, BOB, ("if", CAT, DOG))
        self.told((1, 3), ("and", CAT, DOG), BOB, DOG, BOB, CAT)
        self.told((0, 1, 3), ("and", CAT, ("and", DOG, BOB)), CAT, DOG, SOME_CAT, BOB)

    def test_from_the_last_to_the_first(self):
        # Each of several would do: the first one stays, since the others were gone through ahead of it.
        self.told((0,), CAT, CAT, ALL_CATS, ("and", CAT, DOG))
        self.told((0,), CAT, ("and", CAT, DOG), ALL_CATS, CAT)
        self.told((0, 1), ("and", CAT, BOB), CAT, BOB, ALL_CATS)
        self.told((0,), ("and", CAT, BOB), ALL_CATS, CAT, BOB)
        # Of the three first ones two are needed together: these stay, though the last alone would do.
        self.told((0, 1), DOG, ("if", CAT, DOG), CAT, DOG)

    def test_the_same_form_twice(self):
        self.told((0,), CAT, CAT, CAT)
        self.told((1,), CAT, DOG, CAT, CAT, DOG)
        self.told((0, 2), ("and", CAT, DOG), CAT, CAT, DOG, DOG)

    def test_of_none(self):
        for goal in (("or", ("same", "Ann", "Bob"), ("not", FALSE)), ("if", CAT, CAT), ("not", FALSE), ("every", "x", ("same", "x", "x")),
                     ("not", ("and", CAT, ("not", CAT)))):
            self.told((), goal)
            self.told((), goal, CAT, DOG, FALSE)

    def test_other_names(self):
        self.told((0,), ("is", "Zed", "cat"), ALL_CATS, names=NAMES + ("Zed",))
        self.lacks(("is", "Zed", "cat"), ALL_CATS)
        self.lacks(("some", "x", ("same", "x", "x")))
        self.told((0,), ("some", "x", ("same", "x", "x")), ("same", "Ann", "Ann"))
        self.lacks(SOME_CAT, ALL_CATS, names=())

    def test_lacks(self):
        self.lacks(CAT)
        self.lacks(CAT, DOG, BOB)
        self.lacks(FALSE, CAT, DOG)
        self.lacks(("and", CAT, DOG), CAT)
        # It holds in all worlds, but it isn't reached.
        self.lacks(("or", CAT, ("not", CAT)), BOB)
        # Four steps.
        goal = CAT
        for deep in range(1, 6):
            goal = ("or", DOG, goal)
            if deep < 5:
                self.told((1,), goal, BOB, CAT)
        self.lacks(goal, BOB, CAT)

    def test_too_great(self):
        def great(many, goal, *forms):
            with self.assertRaises(TooGreat) as caught:
                least_givens(NAMES, forms, goal)
            self.assertEqual((caught.exception.many, caught.exception.most), (many, 200))

        great(201, CAT, *FULL, CAT)
        great(201, FALSE, *FULL, CAT)
        great(201, ("if", CAT, DOG), *FULL)
        # From all it is known at once; without the last one a step is asked for by which there are too many.
        several = ("if", DOG, ("if", BOB, CAT))
        self.assertIs(reached(NAMES, simple(199) + (several,), several), True)
        great(201, several, *simple(199), several)

    def test_nothing_is_changed(self):
        forms = (CAT, ("if", CAT, DOG), BOB)
        least_givens(NAMES, forms, DOG)
        self.assertEqual(forms, (CAT, ("if", CAT, DOG), BOB))

    def test_by_chance(self):
        chance = random.Random(31)
        told = {}
        for _ in range(250):
            forms = tuple(random_form(chance, 4) for _ in range(chance.randrange(6)))
            goal = random_form(chance, 4)
            if forms and chance.random() < 0.6:
                goal = ("and", chance.choice(forms), chance.choice((chance.choice(forms), ("or", goal, chance.choice(forms)))))
            if chance.random() < 0.3:
                forms += tuple(chance.sample(forms, len(forms)))
            try:
                wanted = slow_least(NAMES, forms, goal)
            except Lacks:
                self.lacks(goal, *forms)
                wanted = None
            else:
                self.told(wanted, goal, *forms)
                self.assertTrue(SMALL_WORLDS.follows(goal, [forms[at] for at in wanted]))
            many = None if wanted is None else len(wanted)
            told[many] = told.get(many, 0) + 1
        self.assertGreater(min(told[many] for many in (None, 0, 1, 2)), 5, told)


if __name__ == "__main__":
    unittest.main()

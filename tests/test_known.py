"""[25]: what is known from names and forms, in its order; and TooGreat."""

import random
import unittest

from linecourt.errors import TooGreat
from linecourt.known import known_from
from tests.arguing import GIVENS, slow_known
from tests.making import FALSE, NAMES, random_form

CAT, DOG, BOB = ("is", "Ann", "cat"), ("is", "Ann", "dog"), ("is", "Bob", "cat")
LOOK = ("does", "sees", "x", "y")
BOTH = ("and", CAT, DOG)


def seen(one, other):
    return ("does", "sees", one, other)


def simple(many):
    """So many forms of which nothing else is known."""
    return tuple(("same", "A" + "abcdefghijklmnopqrstuvwxyz"[at % 26], "B" + "abcdefghijklmnopqrstuvwxyz"[at // 26]) for at in range(many))


class Order(unittest.TestCase):
    def told(self, names, forms, wanted):
        self.assertEqual(known_from(names, forms), wanted)
        self.assertEqual(slow_known(names, forms), wanted)

    def test_the_forms_each_once(self):
        self.told((), (), ())
        self.told(NAMES, (), ())
        self.told(NAMES, (CAT,), (CAT,))
        self.told(NAMES, (DOG, CAT, DOG, CAT, BOB), (DOG, CAT, BOB))

    def test_and(self):
        self.told((), (BOTH,), (BOTH, CAT, DOG))
        self.told((), (DOG, BOTH), (DOG, BOTH, CAT))
        self.told((), (("and", CAT, CAT),), (("and", CAT, CAT), CAT))
        self.told((), (("and", DOG, CAT), BOTH), (("and", DOG, CAT), BOTH, DOG, CAT))
        self.told((), (("or", CAT, DOG), ("not", BOTH), ("some", "x", BOTH)), (("or", CAT, DOG), ("not", BOTH), ("some", "x", BOTH)))

    def test_if(self):
        self.told((), (("if", CAT, DOG), CAT), (("if", CAT, DOG), CAT, DOG))
        self.told((), (CAT, ("if", CAT, DOG)), (CAT, ("if", CAT, DOG), DOG))
        self.told((), (("if", CAT, DOG), DOG), (("if", CAT, DOG), DOG))
        self.told((), (("if", CAT, DOG),), (("if", CAT, DOG),))

    def test_every(self):
        every = ("every", "x", ("is", "x", "cat"))
        self.told(("Bob", "Ann"), (every,), (every, BOB, CAT))
        self.told(("Ann",), (every,), (every, CAT))
        self.told((), (every,), (every,))
        self.told(NAMES, (("every", "x", DOG),), (("every", "x", DOG), DOG))
        self.told(("Ann", "Ann"), (every,), (every, CAT))

    def test_false(self):
        self.told((), (CAT, ("not", CAT)), (CAT, ("not", CAT), FALSE))
        self.told((), (("not", CAT), CAT), (("not", CAT), CAT, FALSE))
        self.told((), (CAT, ("not", CAT), FALSE), (CAT, ("not", CAT), FALSE))
        self.told((), (("not", CAT), ("not", ("not", CAT))), (("not", CAT), ("not", ("not", CAT)), FALSE))
        self.told((), (FALSE, CAT), (FALSE, CAT))
        # Last in its round, whatever comes of the forms behind.
        self.told((), (CAT, ("not", CAT), BOTH), (CAT, ("not", CAT), BOTH, DOG, FALSE))
        # In the round behind that in which both are known.
        pair = ("and", CAT, ("not", CAT))
        self.told((), (pair, ("and", BOB, DOG)), (pair, ("and", BOB, DOG), CAT, ("not", CAT), BOB, DOG, FALSE))

    def test_one_walk_of_the_forms(self):
        every = ("every", "x", seen("x", "x"))
        forms = (("if", CAT, ("and", BOB, DOG)), every, ("and", DOG, CAT), CAT)
        self.told(NAMES, forms, forms + (("and", BOB, DOG), seen("Ann", "Ann"), seen("Bob", "Bob"), DOG, BOB))

    def test_of_what_was_known_ahead_of_the_round(self):
        # The if comes ahead of what it needs: that is known behind the first round, the rest in the second.
        forms = (("if", CAT, BOB), ("and", CAT, DOG))
        self.told((), forms, forms + (CAT, DOG, BOB))
        forms = (("and", CAT, DOG), ("if", CAT, BOB))
        self.told((), forms, forms + (CAT, DOG, BOB))

    def test_three_rounds(self):
        form = CAT
        chain = [CAT]
        for name in ("Ann", "Bob", "Cid", "Dan"):
            form = ("and", form, ("is", name, "dog"))
            chain.append(form)
        told = known_from((), (form,))
        self.assertIn(chain[1], told)
        self.assertNotIn(CAT, told)
        self.assertEqual(len(told), 7)
        self.assertIn(CAT, known_from((), (chain[3],)))
        every = LOOK
        for letter in ("x", "y", "z", "w"):
            every = ("every", letter, every)
        self.assertEqual(len(known_from(("Ann",), (every,))), 4)
        self.assertNotIn(seen("Ann", "Ann"), known_from(("Ann",), (every,)))
        self.assertIn(seen("Ann", "Ann"), known_from(("Ann",), (every[2],)))
        # False of what is known behind the second round, not behind the third.
        self.assertIn(FALSE, known_from((), (("and", ("and", CAT, DOG), BOB), ("not", CAT))))
        self.assertNotIn(FALSE, known_from((), (("and", ("and", ("and", CAT, DOG), BOB), BOB), ("not", CAT))))

    def test_forms_of_sums(self):
        one, other = ("least", ((("cat", 1),), 0), ((), 1)), ("least", ((("cat", 1),), 1), ((), 0))
        self.told((), (one, ("not", other), ("if", one, other)), (one, ("not", other), ("if", one, other), other, FALSE))

    def test_nothing_is_changed(self):
        names, forms = ["Ann"], [BOTH]
        known_from(names, forms)
        self.assertEqual((names, forms), (["Ann"], [BOTH]))


class TooMany(unittest.TestCase):
    def refused(self, names, forms, many):
        with self.assertRaises(TooGreat) as caught:
            known_from(names, forms)
        self.assertEqual((caught.exception.many, caught.exception.most), (many, 200))
        with self.assertRaises(TooGreat) as caught:
            slow_known(names, forms)
        self.assertEqual(caught.exception.many, many)

    def test_just_200(self):
        self.assertEqual(known_from((), simple(200)), simple(200))
        self.assertEqual(known_from((), simple(200) * 2), simple(200))
        self.assertEqual(len(known_from((), simple(197) + (BOTH,))), 200)
        self.assertEqual(len(known_from((), simple(199)[:-1] + (("and", simple(1)[0], CAT),))), 200)

    def test_more(self):
        self.refused((), simple(201), 201)
        self.refused((), simple(198) + (BOTH,), 201)
        self.refused((), simple(199) + (BOTH,), 202)
        self.refused((), simple(199) + (("if", CAT, DOG), CAT), 202)
        self.refused((), simple(198) + (CAT, ("not", CAT)), 201)
        self.refused((), simple(250), 250)

    def test_many_at_the_end_of_the_round(self):
        names = tuple("A" + letter for letter in "abcdefghijklmno")
        # 1, then 16, then 241 forms.
        self.refused(names, (("every", "x", ("every", "y", LOOK)),), 241)
        self.assertEqual(len(known_from(names[:13], (("every", "x", ("every", "y", LOOK)),))), 183)
        # 1, 10, 91 forms, and only then too many.
        self.refused(names[:9], (("every", "x", ("every", "y", ("every", "z", ("or", LOOK, ("is", "z", "cat"))))),), 820)
        # The first round passes it, the others are gone through no more.
        self.refused(names, tuple(("every", "x", ("and", ("same", "x", name), ("is", "x", "cat"))) for name in names[:13]), 208)

    def test_in_the_third_round(self):
        form = ("and", ("and", ("and", CAT, DOG), BOB), ("is", "Bob", "dog"))
        self.assertEqual(len(known_from((), simple(193) + (form,))), 200)
        self.refused((), simple(194) + (form,), 201)
        deeper = ("and", form, ("is", "Cid", "dog"))
        self.assertEqual(len(known_from((), simple(193) + (deeper,))), 200)


class ByChance(unittest.TestCase):
    def test_against_slow_rounds(self):
        chance = random.Random(25)
        great = 0
        for _ in range(400):
            names = tuple(chance.sample(("Ann", "Bob", "Zed", "Yon", "Cid", "Dan"), chance.randrange(6)))
            forms = tuple(
                chance.choice(GIVENS) if chance.random() < 0.3 else random_form(chance, 5, words=("and", "if", "every", "not", "is"))
                for _ in range(chance.randrange(8)))
            forms += tuple(form[1] for form in forms if form[0] == "if" and chance.random() < 0.7)
            if chance.random() < 0.1:
                names += tuple("Q" + letter for letter in "abcdefghijkl")
                forms += (("every", "x", ("every", "y", ("and", LOOK, ("is", "x", "cat")))),)
            try:
                wanted = slow_known(names, forms)
            except TooGreat as refusal:
                great += 1
                with self.assertRaises(TooGreat) as caught:
                    known_from(names, forms)
                self.assertEqual((caught.exception.many, caught.exception.most), (refusal.many, 200))
            else:
                self.assertEqual(known_from(names, forms), wanted)
        self.assertGreater(great, 5)


if __name__ == "__main__":
    unittest.main()

"""[29], of [3]: the court's word on an argument."""

import random
import unittest

from linecourt.against import against
from linecourt.arguments import is_argument
from linecourt.checker import lets_by
from linecourt.court import court_word
from linecourt.errors import Lacks, TooGreat
from linecourt.filling import written_out
from linecourt.worlds import is_world
from tests.arguing import MEANINGS, bent_argument, random_argument
from tests.making import FALSE, SMALL, clearly, given, random_form, supposed, total
from tests.slowcourt import slow_names
from tests.test_against import BEYOND, at_least, slow_against
from tests.test_checker import BOTH, FIRST, NOT_LET_BY
from tests.test_filling import first_refused, with_gaps

CAT, DOG, BOB = ("is", "Ann", "cat"), ("is", "Ann", "dog"), ("is", "Bob", "cat")
ALL_CATS, SOME_CAT = ("every", "x", ("is", "x", "cat")), ("some", "x", ("is", "x", "cat"))
# The first worlds of one and of two things of the small vocabulary.
NO_CAT = (1, (("Ann", 0), ("Bob", 0)), (("cat", ()), ("dog", ())), (("sees", ()),))
ONE_CAT = (1, (("Ann", 0), ("Bob", 0)), (("cat", (0,)), ("dog", ())), (("sees", ()),))
TWO = (2, (("Ann", 0), ("Bob", 0)), (("cat", (1,)), ("dog", ())), (("sees", ()),))
WIDE = (("Ann",), ("cat", "cow", "dog"), ("likes", "sees"))


def by(level, form, *ks):
    return (level, form, ("by", ks))


class Asking(unittest.TestCase):
    def let_by(self, *lines, meanings=(), earlier=None, vocabulary=SMALL):
        argument = (vocabulary, meanings, lines)
        self.assertTrue(is_argument(argument), argument)
        word = court_word(argument, earlier)
        self.assertEqual(word, ("let by", written_out(argument, earlier)[0]))
        self.assertIs(lets_by(word[1], earlier), True)
        return word[1]

    def refused(self, line, world, *lines, meanings=(), earlier=None, vocabulary=SMALL):
        argument = (vocabulary, meanings, lines)
        self.assertTrue(is_argument(argument), argument)
        word = court_word(argument, earlier)
        self.assertIsInstance(word, tuple)
        self.assertEqual(word, ("refused", line, world))


class LetBy(Asking):
    def test_nothing_to_fill(self):
        self.assertEqual(self.let_by(*BOTH[2]), BOTH)
        self.assertEqual(self.let_by(given(CAT)), (SMALL, (), (given(CAT),)))
        chance = random.Random(29)
        for _ in range(30):
            argument = random_argument(chance, 12)
            self.assertEqual(court_word(argument), ("let by", argument))

    def test_filled(self):
        told = self.let_by(given(CAT), given(DOG), by(0, ("and", DOG, CAT), 1, 2), clearly(0, ("if", BOB, DOG)))
        self.assertEqual(told[2][2], (0, ("and", DOG, CAT), ("both", 2, 1)))
        self.assertEqual(told[2][-1][:2], (0, ("if", BOB, DOG)))
        self.assertNotIn("clearly", repr(told))

    def test_meanings(self):
        self.let_by(given(CAT), clearly(0, ("or", CAT, DOG)), by(0, ("is", "Ann", "pet"), 2), meanings=MEANINGS)

    def test_earlier_ones(self):
        earlier = (("joined", BOTH), ("first", FIRST))
        lines = (given(CAT), given(DOG), (0, CAT, ("earlier", "first", (1, 2))), clearly(0, ("or", BOB, CAT)))
        told = self.let_by(*lines, earlier=earlier)
        self.assertEqual(told[2][2][2], ("earlier", "first", (1, 2)))
        # Here the line would be right by itself: but not for this reason.
        for less in (None, (), earlier[:1]):
            self.refused(3, BEYOND, *lines, earlier=less)


class Refused(Asking):
    def test_each_sort_of_reason(self):
        self.refused(1, NO_CAT, clearly(0, CAT))
        self.refused(2, NO_CAT, given(("not", CAT)), by(0, CAT, 1))
        self.refused(2, NO_CAT, given(("not", CAT)), (0, CAT, ("again", 1)))
        self.refused(2, ONE_CAT, given(CAT), clearly(0, DOG))
        self.refused(2, ONE_CAT, given(CAT), by(0, DOG, 1))
        self.refused(2, ONE_CAT, given(CAT), (0, DOG, ("again", 1)))
        self.refused(2, ONE_CAT, given(CAT), (0, DOG, ("earlier", "first", (1,))), earlier=(("first", FIRST),))
        self.refused(2, ONE_CAT, given(CAT), (0, DOG, ("earlier", "other", (1,))), earlier=(("other", NOT_LET_BY),))
        self.refused(1, NO_CAT, (0, ("least", total(0, cat=1), total(1)), ("sums", (), ())))
        self.refused(3, NO_CAT, supposed(1, CAT), (1, CAT, ("again", 1)), (0, CAT, ("soif", 1)))

    def test_the_first_line(self):
        self.refused(2, ONE_CAT, given(CAT), clearly(0, DOG), clearly(0, BOB), (0, FALSE, ("again", 1)))
        self.refused(3, ONE_CAT, given(CAT), clearly(0, ("or", CAT, DOG)), (0, FALSE, ("again", 1)), clearly(0, DOG))
        self.refused(3, ONE_CAT, given(CAT), by(0, ("or", CAT, DOG), 1), by(0, DOG, 2), (0, FALSE, ("again", 1)))

    def test_a_world_of_two_things(self):
        self.refused(2, TWO, given(SOME_CAT), clearly(0, CAT))
        self.refused(2, (2, (("Ann", 0), ("Bob", 0)), (("cat", (0,)), ("dog", ())), (("sees", ()),)), given(CAT), clearly(0, ALL_CATS))
        # One of one thing goes first, though that of two things stands ahead where kinds alone are compared.
        self.refused(2, ONE_CAT, given(SOME_CAT), clearly(0, ("some", "x", ("not", ("is", "x", "cat")))))

    def test_within_boxes(self):
        zed = (1, ("same", "Zed", "Zed"), ("any", "Zed"))
        self.refused(3, (2, (("Ann", 0), ("Bob", 0), ("Zed", 1)), (("cat", (0,)), ("dog", ())), (("sees", ()),)),
                     given(CAT), zed, clearly(1, ("is", "Zed", "cat")), (0, ALL_CATS, ("forany", 2)))
        self.refused(2, (2, (("Ann", 0), ("Bob", 0), ("Zed", 0)), (("cat", (1,)), ("dog", ())), (("sees", ()),)),
                     given(SOME_CAT), (1, ("is", "Zed", "cat"), ("called", "Zed", 2)), clearly(0, SOME_CAT))
        self.refused(1, BEYOND, (1, ("same", "Zed", "Zed"), ("called", "Zed", 2)), clearly(0, SOME_CAT))

    def test_none_of_two_things(self):
        # It holds in all worlds, or in all of one and two things, but isn't reached so.
        self.refused(1, BEYOND, clearly(0, ("or", CAT, ("not", CAT))))
        self.refused(2, BEYOND, given(CAT), (0, CAT, ("left", 1)))
        self.refused(2, BEYOND, given(CAT), by(0, CAT, 1, 1))
        self.refused(1, BEYOND, clearly(0, ("not", at_least(3))))
        self.refused(2, BEYOND, given(FALSE), (0, CAT, ("again", 1)))

    def test_meanings(self):
        pet = ("is", "Ann", "pet")
        self.refused(2, (1, (("Ann", 0), ("Bob", 0)), (("cat", ()), ("dog", (0,))), (("sees", ()),)),
                     given(pet), clearly(0, CAT), meanings=MEANINGS)
        self.refused(2, BEYOND, given(CAT), clearly(0, pet), meanings=MEANINGS)

    def test_too_many_worlds(self):
        # Of one thing 2 to the power of 5, of two 4 * 2 to the power of 14: where there is one of one thing it isn't told.
        self.refused(1, BEYOND, clearly(0, CAT), vocabulary=WIDE)
        # 16 * 256 of two things are just 4,096, and 8 of one thing.
        names = ("Ann", "Bob", "Cy", "Dan")
        self.refused(1, BEYOND, clearly(0, CAT), vocabulary=(names, ("cat", "dog"), ("sees",)))
        self.refused(1, (1, tuple((name, 0) for name in names), (("cat", ()),), (("sees", ()),)),
                     clearly(0, CAT), vocabulary=(names, ("cat",), ("sees",)))
        # The names of its openers make them too many.
        lines = ((1, ("same", "Yon", "Yon"), ("any", "Yon")), (2, ("same", "Zed", "Zed"), ("any", "Zed")))
        self.refused(3, BEYOND, *lines, clearly(2, CAT), clearly(0, CAT))
        self.refused(2, (1, (("Ann", 0), ("Bob", 0), ("Yon", 0)), (("cat", ()), ("dog", ())), (("sees", ()),)),
                     lines[0], clearly(1, CAT), clearly(0, CAT))


class TooManyKnown(Asking):
    def start(self):
        # Fifteen names and an every within an every: 1, 16, then 241 forms, and N is N of each of the thirteen.
        lines = [given(("every", "x", ("every", "y", ("does", "sees", "x", "y"))))]
        for at, letter in enumerate("abcdefghijklm"):
            lines.append((at + 1, ("same", "N" + letter, "N" + letter), ("any", "N" + letter)))
        return lines

    def test_beyond_the_bound(self):
        start = self.start()
        self.refused(15, BEYOND, *start, clearly(13, CAT), clearly(0, CAT))
        self.refused(15, BEYOND, *start, clearly(13, ("same", "Ann", "Ann")), (0, DOG, ("again", 1)))
        # Where another line is refused first it is that one.
        world = (1, (("Ann", 0), ("Bob", 0)), (("cat", ()), ("dog", ())), (("sees", ((0, 0),)),))
        self.refused(2, world, start[0], clearly(0, CAT), *start[1:], clearly(13, CAT), clearly(0, CAT))
        self.refused(2, world, start[0], (0, CAT, ("again", 1)), *start[1:], clearly(13, CAT), clearly(0, CAT))
        # Where a line behind is clear alone, nothing is too much at another reason.
        seen = ("every", "y", ("does", "sees", "Ann", "y"))
        self.refused(16, world, *start, by(13, seen, 1), clearly(0, CAT))

    def test_though_there_is_a_world_against_it(self):
        # Of many givens of one vocabulary: the line has a world against it, but what is known is too much.
        atoms = [("is", name, kind) for name in SMALL[0] for kind in SMALL[1]]
        told = [("or", one, ("or", two, three)) for one in atoms for two in atoms for three in atoms]
        told += [("or", ("or", one, two), three) for one in atoms for two in atoms for three in atoms]
        several = zip(told[4::4], told[5::4], told[6::4], told[7::4])
        forms = told[:4] + [("and", ("and", one, two), ("and", three, four)) for one, two, three, four in several][:28]
        lines = tuple(given(form) for form in forms)
        line = clearly(0, ("if", ("does", "sees", "Ann", "Bob"), ("not", BOB)))
        argument = (SMALL, (), lines + (line,))
        self.assertNotEqual(against(argument, len(lines) + 1, 2), BEYOND)
        self.refused(len(lines) + 1, BEYOND, *lines, line)


class ByChance(unittest.TestCase):
    def wanted(self, argument):
        """The word, by the words of the document; None of what is let by, and of what has too many worlds to go through."""
        lines = argument[2]
        for k in range(1, len(lines) + 1):
            # The lines behind it play no part: so they are cut off, one of level 0 being put behind.
            head = argument[:2] + (lines[:k] + ((0, ("same", "Ann", "Ann"), ("itself",)),),)
            try:
                if first_refused(head) == k:
                    return ("refused", k, slow_against(argument, k, 2) if len(slow_names(argument, k)) <= 3 else BEYOND)
            except TooGreat:
                return ("refused", k, BEYOND)
        return None

    def test_arguments_with_gaps_and_bent_ones(self):
        chance = random.Random(290)
        told = {"let by": 0, 1: 0, 2: 0, BEYOND: 0}
        for _ in range(300):
            argument = with_gaps(chance, random_argument(chance, 8))
            while chance.random() < 0.6:
                argument = bent_argument(chance, argument)
            if chance.random() < 0.3:
                argument = argument[:2] + (argument[2] + (clearly(0, random_form(chance, 3)),),)
            if not is_argument(argument):
                continue
            word = court_word(argument)
            wanted = self.wanted(argument)
            if wanted is None:
                told["let by"] += 1
                self.assertEqual(word, ("let by", written_out(argument)[0]))
            else:
                self.assertEqual(word, wanted, argument)
                told[BEYOND if word[2] == BEYOND else word[2][0]] += 1
                with self.assertRaises((Lacks, TooGreat)):
                    written_out(argument)
                if word[2] != BEYOND:
                    names = tuple(sorted(slow_names(argument, word[1])))
                    self.assertTrue(is_world((names,) + SMALL[1:], word[2]))
        self.assertGreater(min(told["let by"], told[1], told[BEYOND]), 10, told)
        self.assertGreater(told[2], 0, told)


if __name__ == "__main__":
    unittest.main()

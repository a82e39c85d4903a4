"""[32], [33]: arguments joined at a line, and NoJoin."""

import random
import unittest

from linecourt.arguments import is_argument, shown
from linecourt.checker import lets_by
from linecourt.errors import NoJoin
from linecourt.joining import joined
from tests.arguing import MEANINGS, bent_argument, random_argument, renamed, unsound_lines
from tests.making import FALSE, SMALL, clearly, given, supposed, total
from tests.test_checker import BOTH, FIRST, NOT_LET_BY
from tests.test_filling import moved

CAT, DOG, BOB = ("is", "Ann", "cat"), ("is", "Ann", "dog"), ("is", "Bob", "cat")
ALL_CATS, SOME_CAT = ("every", "x", ("is", "x", "cat")), ("some", "x", ("is", "x", "cat"))
ZED, ZED_CAT = ("same", "Zed", "Zed"), ("is", "Zed", "cat")
EITHER = ("or", CAT, DOG)


def argument(*lines, meanings=(), vocabulary=SMALL):
    return (vocabulary, meanings, lines)


def opened(lines):
    return [line[2][1] for line in lines if line[2][0] in ("any", "called")]


def named_anew(line, new):
    level, form, reason = line
    if reason[0] in ("any", "called", "at", "such"):
        reason = tuple(new.get(piece, piece) for piece in reason)
    return (level, renamed(form, new), reason)


def slow_joined(one, other, k, new):
    """By counting, the new names being told."""
    first, second = one[2], tuple(named_anew(line, new) for line in other[2])
    m, n = (sum(line[2] == ("given",) for line in lines) for lines in (first, second))
    ones = [i if i <= m else i + n - 1 for i in range(1, len(first) + 1)]
    others = [ones[-1] if j == k else m + j - (j > k) if j <= n else len(first) + j - 1 for j in range(1, len(second) + 1)]
    told = {}
    for lines, numbers, out in ((first, ones, None), (second, others, k)):
        for at, (level, form, reason) in enumerate(lines, 1):
            if at != out:
                told[numbers[at - 1]] = (level, form, moved(reason, numbers))
    return one[:2] + (tuple(told[number] for number in sorted(told)),)


class Asking(unittest.TestCase):
    def join(self, one, other, k):
        """What is joined, looked at for all that is promised of it."""
        self.assertIs(lets_by(one), True, one)
        self.assertIs(lets_by(other), True, other)
        told = joined(one, other, k)
        self.assertTrue(is_argument(told), (one, other, k))
        self.assertIs(lets_by(told), True, (one, other, k))
        ones, others = shown(one), shown(other)
        self.assertEqual(shown(told), (ones[0] + others[0][:k - 1] + others[0][k:], others[1]))
        self.assertEqual(len(told[2]), len(one[2]) + len(other[2]) - 1)
        # The openers stand in their order: so it shows what each of the other's is called now.
        names = opened(told[2])
        self.assertEqual(names[:len(opened(one[2]))], opened(one[2]))
        new = dict(zip(opened(other[2]), names[len(opened(one[2])):]))
        for old, name in new.items():
            if old in opened(one[2]):
                self.assertNotIn(name, opened(one[2]) + opened(other[2]) + list(SMALL[0]))
            else:
                self.assertEqual(name, old)
        self.assertEqual(told, slow_joined(one, other, k, new))
        return told

    def no_join(self, one, other, k):
        with self.assertRaises(NoJoin):
            joined(one, other, k)


class Joined(Asking):
    def test_the_order_of_the_lines(self):
        one = argument(given(CAT), given(BOB), (0, EITHER, ("orleft", 1)), (0, ("and", EITHER, BOB), ("both", 3, 2)))
        other = argument(given(DOG), given(("and", EITHER, BOB)), given(FALSE), (0, EITHER, ("left", 2)), (0, ("and", EITHER, DOG), ("both", 4, 1)),
                         (0, CAT, ("nothing", 3)))
        self.assertEqual(self.join(one, other, 2)[2], (
            given(CAT), given(BOB), given(DOG), given(FALSE), (0, EITHER, ("orleft", 1)), (0, ("and", EITHER, BOB), ("both", 5, 2)),
            (0, EITHER, ("left", 6)), (0, ("and", EITHER, DOG), ("both", 7, 3)), (0, CAT, ("nothing", 4))))

    def test_each_line_that_may_be(self):
        one = argument(given(DOG), (0, EITHER, ("orright", 1)))
        other = argument(given(EITHER), given(CAT), given(EITHER), (0, ("and", EITHER, EITHER), ("both", 1, 3)))
        self.assertEqual(self.join(one, other, 1)[2], (
            given(DOG), given(CAT), given(EITHER), (0, EITHER, ("orright", 1)), (0, ("and", EITHER, EITHER), ("both", 4, 3))))
        self.assertEqual(self.join(one, other, 3)[2], (
            given(DOG), given(EITHER), given(CAT), (0, EITHER, ("orright", 1)), (0, ("and", EITHER, EITHER), ("both", 2, 4))))
        self.no_join(one, other, 2)

    def test_the_ones_last_line_being_given(self):
        one = argument(given(DOG), given(CAT))
        other = argument(given(BOB), given(CAT), (0, ("and", CAT, BOB), ("both", 2, 1)))
        self.assertEqual(self.join(one, other, 2)[2], (given(DOG), given(CAT), given(BOB), (0, ("and", CAT, BOB), ("both", 2, 3))))
        self.assertEqual(self.join(argument(given(CAT)), other, 2)[2], (given(CAT), given(BOB), (0, ("and", CAT, BOB), ("both", 1, 2))))

    def test_without_givens(self):
        one = argument((0, ("same", "Ann", "Ann"), ("itself",)))
        other = argument(given(("same", "Ann", "Ann")), (0, ("some", "x", ("same", "x", "x")), ("such", 1, "Ann")))
        self.assertEqual(self.join(one, other, 1)[2], (
            (0, ("same", "Ann", "Ann"), ("itself",)), (0, ("some", "x", ("same", "x", "x")), ("such", 1, "Ann"))))

    def test_numbers_of_sums(self):
        count = ("least", total(0, cat=1), total(1))
        one = argument(given(CAT), (0, count, ("one", 1)))
        twice = ("least", total(0, cat=2), total(2))
        other = argument(given(count), (0, twice, ("sums", (1,), (2,))), (0, ("least", total(0, cat=3), total(3)), ("sums", (1, 2), (1, 1))))
        self.assertEqual(self.join(one, other, 1)[2][2:], (
            (0, twice, ("sums", (2,), (2,))), (0, ("least", total(0, cat=3), total(3)), ("sums", (2, 3), (1, 1)))))

    def test_boxes(self):
        one = argument(supposed(1, DOG), (0, ("if", DOG, DOG), ("soif", 1)))
        other = argument(given(CAT), given(("if", DOG, DOG)), supposed(1, DOG), (1, DOG, ("then", 2, 3)), (1, ("and", DOG, CAT), ("both", 4, 1)),
                         (0, ("if", DOG, ("and", DOG, CAT)), ("soif", 3)))
        self.assertEqual(self.join(one, other, 2)[2], (
            given(CAT), supposed(1, DOG), (0, ("if", DOG, DOG), ("soif", 2)), supposed(1, DOG), (1, DOG, ("then", 3, 4)),
            (1, ("and", DOG, CAT), ("both", 5, 1)), (0, ("if", DOG, ("and", DOG, CAT)), ("soif", 4))))

    def test_names_called_anew(self):
        some = ("some", "y", ("is", "y", "cat"))
        one = argument(given(SOME_CAT), (1, ZED_CAT, ("called", "Zed", 1)), (1, some, ("such", 2, "Zed")), (0, some, ("forsome", 2)))
        other = argument(
            given(ALL_CATS), given(some), (1, ZED, ("any", "Zed")), (2, ("is", "Yon", "cat"), ("called", "Yon", 2)),
            (2, ZED_CAT, ("at", 1, "Zed")), (2, SOME_CAT, ("such", 4, "Yon")), (2, ZED_CAT, ("again", 5)), (1, ZED_CAT, ("forsome", 4)),
            (0, ("every", "z", ("is", "z", "cat")), ("forany", 3)))
        told = self.join(one, other, 2)
        name = told[2][5][2][1]
        self.assertNotIn(name, ("Ann", "Bob", "Zed", "Yon"))
        new = ("is", name, "cat")
        self.assertEqual(told[2], (
            given(SOME_CAT), given(ALL_CATS), (1, ZED_CAT, ("called", "Zed", 1)), (1, some, ("such", 3, "Zed")), (0, some, ("forsome", 3)),
            (1, ("same", name, name), ("any", name)), (2, ("is", "Yon", "cat"), ("called", "Yon", 5)), (2, new, ("at", 2, name)),
            (2, SOME_CAT, ("such", 7, "Yon")), (2, new, ("again", 8)), (1, new, ("forsome", 7)),
            (0, ("every", "z", ("is", "z", "cat")), ("forany", 6))))

    def test_all_names_called_anew(self):
        names = ("Yon", "Zed")
        lines = [given(CAT)]
        for name in names:
            at = len(lines) + 1
            lines += [(1, ("same", name, name), ("any", name)), (1, CAT, ("again", 1)), (0, ("every", "x", CAT), ("forany", at))]
        lines.append((0, CAT, ("at", len(lines), "Ann")))
        told = self.join(argument(*lines), argument(*lines), 1)
        self.assertEqual(len(set(opened(told[2]))), 4)
        # Joined once more, and so on.
        for _ in range(5):
            told = self.join(told, argument(*lines), 1)
        self.assertEqual(len(set(opened(told[2]))), 14)

    def test_new_names_are_unlike_all_others(self):
        # Each name of one great letter stands somewhere: in the vocabulary, in the one, or in the other.
        letters = tuple("ABCDEFGHIJKLMNOPQRSTUVWXYZ")
        vocabulary = (letters[:6], ("cat",), ())

        def walk(names):
            lines = [given(("is", "A", "cat"))]
            for name in names:
                at = len(lines) + 1
                lines += [(1, ("same", name, name), ("any", name)), (0, ("every", "x", ("same", "x", "x")), ("forany", at))]
            return argument(*lines, (0, ("is", "A", "cat"), ("again", 1)), vocabulary=vocabulary)

        one, other = walk(letters[6:17]), walk(letters[16:])
        told = joined(one, other, 1)
        self.assertIs(lets_by(told), True)
        names = opened(told[2])
        self.assertEqual(names[:11] + names[12:], list(letters[6:17] + letters[17:]))
        self.assertNotIn(names[11], letters)
        # With more than one to be called anew these are unlike each other, too.
        told = joined(one, one, 1)
        self.assertIs(lets_by(told), True)
        self.assertEqual(len(set(opened(told[2]) + list(letters[:6]))), 28)

    def test_meanings(self):
        pet = ("is", "Ann", "pet")
        one = argument(given(EITHER), (0, pet, ("meaning", 1)), meanings=MEANINGS)
        other = argument(given(pet), (0, ("some", "x", ("is", "x", "pet")), ("such", 1, "Ann")), meanings=MEANINGS)
        self.assertEqual(self.join(one, other, 1)[:2], (SMALL, MEANINGS))


class NoJoins(Asking):
    ONE = argument(given(CAT), (0, EITHER, ("orleft", 1)))
    OTHER = argument(given(EITHER), given(DOG), (0, ("and", EITHER, DOG), ("both", 1, 2)), (0, EITHER, ("left", 3)))

    def test_k(self):
        self.join(self.ONE, self.OTHER, 1)
        for k in (-10 ** 11, -4, -3, -2, -1, 0, 2, 3, 4, 5, 6, 100, 10 ** 12 - 1):
            self.no_join(self.ONE, self.OTHER, k)

    def test_another_form(self):
        self.no_join(argument(given(CAT)), self.OTHER, 1)
        self.no_join(argument(given(DOG), given(EITHER), given(CAT)), self.OTHER, 1)
        self.no_join(argument(given(("or", DOG, CAT))), self.OTHER, 1)

    def test_other_vocabularies_and_meanings(self):
        wide = (("Ann", "Bob"), ("cat", "cow", "dog"), ("sees",))
        self.no_join(argument(*self.ONE[2], vocabulary=wide), self.OTHER, 1)
        self.no_join(self.ONE, argument(*self.OTHER[2], vocabulary=wide), 1)
        self.join(argument(*self.ONE[2], vocabulary=wide), argument(*self.OTHER[2], vocabulary=wide), 1)
        self.no_join(argument(*self.ONE[2], meanings=MEANINGS), self.OTHER, 1)
        self.no_join(self.ONE, argument(*self.OTHER[2], meanings=MEANINGS), 1)
        self.no_join(argument(*self.ONE[2], meanings=MEANINGS), argument(*self.OTHER[2], meanings=MEANINGS[:2]), 1)
        self.join(argument(*self.ONE[2], meanings=MEANINGS), argument(*self.OTHER[2], meanings=MEANINGS), 1)

    def test_the_others_last_line_given(self):
        for lines in ((given(EITHER),), (given(EITHER), given(DOG)), (given(DOG), given(EITHER))):
            for k in range(0, 4):
                self.no_join(self.ONE, argument(*lines), k)

    def test_one_that_is_not_let_by(self):
        self.no_join(NOT_LET_BY, self.OTHER, 1)
        bad = argument(given(CAT), (0, EITHER, ("orright", 1)))
        self.assertTrue(is_argument(bad))
        self.no_join(bad, self.OTHER, 1)
        self.no_join(argument(given(CAT), clearly(0, EITHER)), self.OTHER, 1)
        self.no_join(argument(given(CAT), (0, EITHER, ("by", (1,)))), self.OTHER, 1)
        self.no_join(self.ONE, argument(given(EITHER), (0, DOG, ("again", 1))), 1)
        self.no_join(self.ONE, argument(given(EITHER), clearly(0, EITHER)), 1)
        # A line that isn't right, though it isn't the one that is needed.
        self.no_join(argument(given(CAT), (0, DOG, ("again", 1)), (0, EITHER, ("orleft", 1))), self.OTHER, 1)
        # It leans on no earlier ones.
        self.no_join(argument(given(CAT), given(DOG), (0, CAT, ("earlier", "first", (1, 2)))), argument(given(CAT), (0, CAT, ("again", 1))), 1)

    def test_by_chance(self):
        chance = random.Random(320)
        told = {True: 0, False: 0}
        for _ in range(80):
            one, other = random_argument(chance, 6, ()), random_argument(chance, 6, ())
            if chance.random() < 0.5:
                other = random_argument(chance, 6, (), givens=(BOB, one[2][-1][1]))
            one, other = (bent_argument(chance, each) if chance.random() < 0.2 else each for each in (one, other))
            for k in range(-1, len(other[2]) + 2):
                may = lets_by(one) and lets_by(other) and 1 <= k <= len(other[2]) and other[2][-1][2] != ("given",) and (
                    other[2][k - 1] == given(one[2][-1][1]))
                told[may] += 1
                if may:
                    self.join(one, other, k)
                else:
                    self.no_join(one, other, k)
        self.assertGreater(min(told.values()), 20, told)


class ByChance(Asking):
    def test_by_chance(self):
        chance = random.Random(32)
        anew = 0
        words = set()
        for _ in range(80):
            meanings = chance.choice(((), MEANINGS))
            one = random_argument(chance, 14, meanings)
            form = one[2][-1][1]
            other = random_argument(chance, 14, meanings, givens=chance.choice(((form,), (CAT, form), (form, SOME_CAT), (BOB, form, form))))
            if other[2][-1][2] == ("given",):
                other = other[:2] + (other[2] + ((0, form, ("again", 1)),),) if other[2][0][1] == form else BOTH
            for k in range(1, len(other[2]) + 1):
                if other[2][k - 1] == given(form):
                    told = self.join(one, other, k)
                    anew += bool(set(opened(one[2])) & set(opened(other[2])))
                    words |= {line[2][0] for line in told[2]}
                    if chance.random() < 0.2:
                        self.assertEqual(unsound_lines(told), [])
        self.assertGreater(anew, 10)
        self.assertGreater(len(words), 20, words)

    def test_what_is_handed_in_stays(self):
        one, other = (repr(each) for each in (FIRST, BOTH))
        first = argument(given(CAT), (0, CAT, ("again", 1)))
        before = repr(first)
        joined(first, first, 1)
        self.assertEqual((repr(first), repr(FIRST), repr(BOTH)), (before, one, other))


if __name__ == "__main__":
    unittest.main()

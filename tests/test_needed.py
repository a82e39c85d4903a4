"""[30], of [3]: the needed lines of an argument, and the argument thinned."""

import random
import unittest

from linecourt.arguments import is_argument, shown
from linecourt.checker import lets_by
from linecourt.needed import needed, thinned
from tests.arguing import MEANINGS, random_argument, unsound_lines
from tests.making import FALSE, SMALL, given, supposed, total
from tests.test_checker import PLAIN, numbered
from tests.test_filling import moved
from tests.test_lines import slow_openers, slow_told_by

CAT, DOG, BOB = ("is", "Ann", "cat"), ("is", "Ann", "dog"), ("is", "Bob", "cat")
ALL_CATS, SOME_CAT = ("every", "x", ("is", "x", "cat")), ("some", "x", ("is", "x", "cat"))
ZED = ("same", "Zed", "Zed")
# Which parts of a reason are boxes: the places of them.
BOXES = {"soif": (1,), "not": (1,), "contrary": (1,), "cases": (2, 3), "forany": (1,), "forsome": (1,)}


def spare(level):
    """A line that is right wherever it stands, and of no use."""
    return (level, ("same", "Bob", "Bob"), ("itself",))


def slow_needed(argument):
    """Line by line, so long as one more is needed."""
    lines = argument[2]
    told = {len(lines)}
    while True:
        new = set(told)
        for k in told:
            reason = lines[k - 1][2]
            new |= set(slow_openers(lines, k)) | {piece for piece in reason[1:] if isinstance(piece, int)}
            new |= set(reason[{"earlier": 2, "sums": 1}[reason[0]]]) if reason[0] in ("earlier", "sums") else set()
            new |= {slow_told_by(lines, reason[at], k) for at in BOXES.get(reason[0], ())}
        if new == told:
            return tuple(sorted(told))
        told = new


class Asking(unittest.TestCase):
    def look(self, argument):
        """What is needed, looked at with what is thinned for all that is promised."""
        self.assertIs(lets_by(argument), True, argument)
        told = needed(argument)
        self.assertIsInstance(told, tuple)
        self.assertEqual(told, slow_needed(argument), argument)
        thin = thinned(argument)
        self.assertTrue(is_argument(thin), argument)
        self.assertIs(lets_by(thin), True, argument)
        self.assertEqual(shown(thin)[1], shown(argument)[1])
        self.assertEqual(thin[:2], argument[:2])
        numbers = [told.index(k) + 1 if k in told else None for k in range(1, len(argument[2]) + 1)]
        self.assertEqual(thin[2], tuple(
            argument[2][k - 1][:2] + (moved(argument[2][k - 1][2], numbers),) for k in told))
        givens = [k for k in told if argument[2][k - 1][2] == ("given",)]
        self.assertEqual(shown(thin)[0], tuple(argument[2][k - 1][1] for k in givens))
        # What is thinned needs all its lines.
        self.assertEqual(needed(thin), tuple(range(1, len(thin[2]) + 1)))
        self.assertEqual(thinned(thin), thin)
        return told

    def needs(self, wanted, *lines, meanings=()):
        self.assertEqual(self.look((SMALL, meanings, lines)), wanted)


class PlainLines(Asking):
    def test_the_last_line_alone(self):
        self.needs((1,), given(CAT))
        self.needs((3,), given(CAT), given(DOG), given(CAT))
        self.needs((2,), given(CAT), spare(0))
        self.needs((3,), given(CAT), (0, CAT, ("again", 1)), spare(0))
        self.assertEqual(thinned((SMALL, (), (given(CAT), spare(0)))), (SMALL, (), (spare(0),)))

    def test_what_each_reason_names(self):
        for word, form, forms, rest in PLAIN:
            many = len(forms)
            last = (0, form, numbered(word, range(2, many + 2), rest))
            self.needs(tuple(range(2, many + 2)) + (many + 4,), given(BOB), *(given(one) for one in forms), given(DOG), spare(0), last)

    def test_sums(self):
        one, other = ("least", total(0, cat=1), total(1)), ("least", total(0, dog=1), total(3))
        both = ("least", total(0, cat=1, dog=1), total(4))
        self.needs((2, 3, 4), given(CAT), given(one), given(other), (0, both, ("sums", (3, 2), (1, 1))))
        # Named ones are needed, so many times as it may be.
        self.needs((1, 2, 3), given(one), given(other), (0, one, ("sums", (2, 1), (0, 1))))
        self.needs((2,), given(one), (0, ("least", total(5), total(4)), ("sums", (), ())))
        # Times are no numbers of lines.
        self.needs((4, 5), given(CAT), given(CAT), given(CAT), given(one), (0, ("least", total(0, cat=3), total(3)), ("sums", (4,), (3,))))

    def test_lines_that_are_needed_by_needed_ones(self):
        self.needs((2, 4, 5, 7), given(BOB), given(CAT), given(DOG), (0, ("or", CAT, DOG), ("orleft", 2)),
                   (0, ("or", ("or", CAT, DOG), BOB), ("orleft", 4)), (0, ("and", BOB, DOG), ("both", 1, 3)),
                   (0, ("or", FALSE, ("or", ("or", CAT, DOG), BOB)), ("orright", 5)))

    def test_earlier(self):
        # Its lines are named, though such an argument is let by with earlier ones alone.
        argument = (SMALL, (), (given(BOB), given(CAT), given(DOG), (0, CAT, ("earlier", "first", (2, 3)))))
        self.assertEqual(needed(argument), (2, 3, 4))
        self.assertEqual(thinned(argument), (SMALL, (), (given(CAT), given(DOG), (0, CAT, ("earlier", "first", (1, 2))))))
        self.assertEqual(needed((SMALL, (), (given(CAT), (0, CAT, ("earlier", "first", ()))))), (2,))

    def test_all_lines(self):
        argument = (SMALL, (), (given(CAT), given(DOG), (0, ("and", CAT, DOG), ("both", 1, 2)), (0, CAT, ("left", 3))))
        self.assertEqual(self.look(argument), (1, 2, 3, 4))
        self.assertEqual(thinned(argument), argument)

    def test_meanings(self):
        self.needs((2, 3), given(CAT), given(("is", "Ann", "pet")), (0, ("or", CAT, DOG), ("meaning", 2)), meanings=MEANINGS)


class Boxes(Asking):
    def test_opener_and_what_was_told(self):
        self.needs((2, 5, 6), given(CAT), supposed(1, DOG), spare(1), (1, CAT, ("again", 1)), (1, DOG, ("again", 2)),
                   (0, ("if", DOG, DOG), ("soif", 2)))
        self.needs((1, 3, 5, 6), given(CAT), given(BOB), supposed(1, DOG), spare(1), (1, CAT, ("again", 1)),
                   (0, ("if", DOG, CAT), ("soif", 3)))
        # An opener alone told its own form.
        self.needs((2, 3), given(CAT), supposed(1, DOG), (0, ("if", DOG, DOG), ("soif", 2)))

    def test_not_and_contrary(self):
        self.needs((2, 3, 5, 6), given(CAT), given(("not", DOG)), supposed(1, DOG), spare(1), (1, FALSE, ("absurd", 3, 2)),
                   (0, ("not", DOG), ("not", 3)))
        self.needs((1, 3, 4, 5), given(DOG), spare(0), supposed(1, ("not", DOG)), (1, FALSE, ("absurd", 1, 3)), (0, DOG, ("contrary", 3)))

    def test_cases(self):
        other = ("or", DOG, CAT)
        self.needs((1, 2, 4, 5, 7, 8), given(("or", CAT, DOG)), supposed(1, CAT), spare(1), (1, other, ("orright", 2)), supposed(1, DOG),
                   spare(1), (1, other, ("orleft", 5)), (0, other, ("cases", 1, 2, 5)))

    def test_names(self):
        self.needs((1, 2, 4, 5), given(ALL_CATS), (1, ZED, ("any", "Zed")), spare(1), (1, ("is", "Zed", "cat"), ("at", 1, "Zed")),
                   (0, ("every", "y", ("is", "y", "cat")), ("forany", 2)))
        # The line that a called name comes from, too.
        self.needs((2, 3, 5, 6), given(BOB), given(SOME_CAT), (1, ("is", "Zed", "cat"), ("called", "Zed", 2)), spare(1),
                   (1, ("some", "y", ("is", "y", "cat")), ("such", 3, "Zed")), (0, ("some", "y", ("is", "y", "cat")), ("forsome", 3)))

    def test_the_openers_of_each_needed_line(self):
        lines = (
            supposed(1, CAT), (2, ZED, ("any", "Zed")), supposed(3, BOB), spare(3), (3, CAT, ("again", 1)),
            (2, ("if", BOB, CAT), ("soif", 3)), (1, ("every", "x", ("if", BOB, CAT)), ("forany", 2)),
            (0, ("if", CAT, ("every", "x", ("if", BOB, CAT))), ("soif", 1)))
        self.needs((1, 2, 3, 5, 6, 7, 8), *lines)
        # Boxes that aren't needed go whole.
        self.needs((9,), *lines, spare(0))

    def test_boxes_next_to_each_other(self):
        # Where the line between them goes, the second opener ends the first box.
        self.needs((1, 2, 3, 5, 6, 7, 8), supposed(1, CAT), (1, ("or", CAT, DOG), ("orleft", 1)), (0, ("if", CAT, ("or", CAT, DOG)), ("soif", 1)),
                   spare(0), supposed(1, DOG), (1, ("or", CAT, DOG), ("orright", 5)), (0, ("if", DOG, ("or", CAT, DOG)), ("soif", 5)),
                   (0, ("and", ("if", CAT, ("or", CAT, DOG)), ("if", DOG, ("or", CAT, DOG))), ("both", 3, 7)))
        self.needs((1, 2, 4, 5, 6, 7, 8), supposed(1, CAT), (1, ("or", CAT, DOG), ("orleft", 1)), spare(0), supposed(1, DOG),
                   (1, ("or", CAT, DOG), ("orright", 4)), (0, ("if", CAT, ("or", CAT, DOG)), ("soif", 1)),
                   (0, ("if", DOG, ("or", CAT, DOG)), ("soif", 4)),
                   (0, ("and", ("if", CAT, ("or", CAT, DOG)), ("if", DOG, ("or", CAT, DOG))), ("both", 6, 7)))


class ByChance(Asking):
    def test_by_chance(self):
        chance = random.Random(30)
        told = {True: 0, False: 0}
        words = set()
        for _ in range(300):
            argument = random_argument(chance, chance.randrange(1, 20))
            whole = self.look(argument) == tuple(range(1, len(argument[2]) + 1))
            told[whole] += 1
            if whole:
                self.assertEqual(thinned(argument), argument)
            thin = thinned(argument)
            words |= {line[2][0] for line in thin[2]}
        self.assertGreater(min(told.values()), 1, told)
        self.assertGreater(len(words), 15, words)

    def test_thinned_ones_are_sound(self):
        chance = random.Random(31)
        for _ in range(40):
            self.assertEqual(unsound_lines(thinned(random_argument(chance, 14))), [])


if __name__ == "__main__":
    unittest.main()

"""[27], of [3]: arguments written out; and Lacks, TooGreat."""

import random
import unittest

from linecourt.arguments import is_argument, shown
from linecourt.checker import lets_by
from linecourt.clerk import by_rule
from linecourt.errors import Lacks, TooGreat
from linecourt.filling import written_out
from tests.arguing import MEANINGS, bent_argument, random_argument, slow_reached, unsound_lines
from tests.making import FALSE, SMALL, clearly, given, random_form, supposed
from tests.slowcourt import PLAIN, slow_by_rule, slow_names, slow_right
from tests.test_checker import BOTH, FIRST, NOT_LET_BY
from tests.test_lines import slow_open_to, slow_openers

CAT, DOG, BOB = ("is", "Ann", "cat"), ("is", "Ann", "dog"), ("is", "Bob", "cat")
SOME_CAT = ("some", "x", ("is", "x", "cat"))
ZED, ZED_CAT = ("same", "Zed", "Zed"), ("is", "Zed", "cat")
CLEARLY = ("clearly",)
STEPS = set(
    "supposed any soif not forany again both left right orleft orright then absurd nothing at such".split())
COW = (("Ann", "Bob"), ("cat", "cow", "dog"), ("sees",))


def by(level, form, *ks):
    return (level, form, ("by", ks))


def every_if(x, one, other):
    return ("every", x, ("if", ("is", x, one), ("is", x, other)))


def moved(reason, numbers):
    """A reason, its lines by their new numbers."""
    word, rest = reason[0], list(reason[1:])
    for at, piece in enumerate(rest):
        if isinstance(piece, int):
            rest[at] = numbers[piece - 1]
        elif isinstance(piece, tuple) and not (word == "sums" and at == 1):
            rest[at] = tuple(numbers[number - 1] for number in piece)
    return (word, *rest)


def all_names(argument):
    return argument[0][0] + tuple(line[2][1] for line in argument[2] if line[2][0] in ("any", "called"))


class Asking(unittest.TestCase):
    def written(self, argument, earlier=None):
        """What is written out, looked at for all that is promised of it."""
        self.assertTrue(is_argument(argument), argument)
        told = written_out(argument, earlier)
        self.assertIsInstance(told, tuple)
        new, numbers = told
        self.assertTrue(is_argument(new), argument)
        self.assertIs(lets_by(new, earlier), True, argument)
        self.assertEqual(new[:2], argument[:2])
        self.assertIsInstance(numbers, tuple)
        self.assertEqual(len(numbers), len(argument[2]))
        self.assertEqual(numbers[-1], len(new[2]))
        self.assertEqual(shown(new), shown(argument))
        ahead = 0
        for k, (line, number) in enumerate(zip(argument[2], numbers), 1):
            self.line(argument, k, new, numbers, new[2][ahead:number - 1])
            self.assertGreater(number, ahead)
            self.assertEqual(new[2][number - 1][:2], line[:2])
            ahead = number
        names = all_names(new)
        self.assertEqual(len(names), len(set(names)))
        self.assertEqual([name for name in names if name in all_names(argument)], list(all_names(argument)))
        return told

    def line(self, argument, k, new, numbers, steps):
        """A line is filled as it should be, steps being the lines put in ahead of it."""
        level, _, reason = argument[2][k - 1]
        told = new[2][numbers[k - 1] - 1][2]
        if reason == CLEARLY:
            self.assertIn(told[0], STEPS)
        else:
            self.assertEqual(told, moved(by_rule(argument, k) if reason[0] == "by" else reason, numbers))
            self.assertEqual(steps, ())
        for at, step in enumerate(steps):
            self.assertIn(step[2][0], STEPS)
            self.assertGreaterEqual(step[0], level)
            # A step that is deeper stands in a box of its own: one that was opened ahead of the line, among the steps.
            first = numbers[k - 1] - len(steps)
            around = [i for i in slow_openers(new[2], first + at) if i >= first]
            self.assertEqual(step[0], level + len(around))

    def refused(self, line, *lines, earlier=None, meanings=()):
        argument = (SMALL, meanings, lines)
        self.assertTrue(is_argument(argument), lines)
        with self.assertRaises(Lacks) as caught:
            written_out(argument, earlier)
        self.assertEqual(caught.exception.line, line)


class Unfilled(Asking):
    def test_small_reasons_stay(self):
        for argument in (BOTH, (SMALL, (), (given(CAT),)), (SMALL, MEANINGS, (given(CAT), (0, CAT, ("meaning", 1))))):
            told = self.written(argument)
            self.assertEqual(told, (argument, tuple(range(1, len(argument[2]) + 1))))

    def test_arguments_by_chance(self):
        chance = random.Random(270)
        for _ in range(40):
            argument = random_argument(chance, 12)
            self.assertEqual(written_out(argument), (argument, tuple(range(1, len(argument[2]) + 1))))

    def test_written_out_again(self):
        argument = (SMALL, (), (given(CAT), clearly(0, ("or", ("and", CAT, CAT), DOG)), by(0, ("or", CAT, DOG), 1)))
        new, numbers = self.written(argument)
        self.assertEqual(written_out(new), (new, tuple(range(1, len(new[2]) + 1))))


class ByLines(Asking):
    def test_filled(self):
        argument = (SMALL, (), (given(CAT), given(DOG), by(0, ("and", DOG, CAT), 1, 2), by(0, DOG, 3)))
        new, numbers = self.written(argument)
        self.assertEqual(new[2], argument[2][:2] + ((0, ("and", DOG, CAT), ("both", 2, 1)), (0, DOG, ("left", 3))))
        self.assertEqual(numbers, (1, 2, 3, 4))

    def test_the_new_numbers(self):
        argument = (SMALL, (), (given(CAT), clearly(0, ("or", DOG, ("or", CAT, BOB))), by(0, ("and", CAT, ("or", DOG, ("or", CAT, BOB))), 2, 1)))
        new, numbers = self.written(argument)
        self.assertEqual(numbers, (1, 3, 4))
        self.assertEqual(new[2][3][2], ("both", 1, 3))

    def test_refused(self):
        self.refused(2, given(CAT), by(0, DOG, 1))
        self.refused(3, given(CAT), by(0, CAT, 1), by(0, DOG, 2), by(0, BOB, 1))
        self.refused(2, supposed(1, CAT), by(0, CAT, 1))
        self.refused(1, by(0, CAT, 1), (0, CAT, ("given",)))
        self.refused(3, given(CAT), given(("if", CAT, ("and", CAT, DOG))), by(0, DOG, 2, 1))


class ClearLines(Asking):
    def clear(self, goal, *forms, vocabulary=SMALL):
        lines = tuple(given(form) for form in forms)
        return self.written((vocabulary, (), lines + (clearly(0, goal),)))[0][2]

    def test_known(self):
        self.assertEqual(self.clear(CAT, CAT)[-1][2], ("again", 1))
        self.assertEqual(self.clear(CAT, DOG, CAT, CAT)[-1][2][0], "again")
        self.clear(CAT, ("and", DOG, ("and", CAT, BOB)))
        self.clear(DOG, ("if", CAT, DOG), ("and", BOB, CAT))
        self.clear(BOB, ("every", "x", ("if", CAT, ("is", "x", "cat"))), CAT)
        self.clear(DOG, CAT, ("not", CAT))
        self.clear(FALSE, CAT, ("not", CAT))
        self.clear(DOG, FALSE)
        self.clear(("every", "x", ("is", "x", "dog")), ("and", CAT, ("not", CAT)))

    def test_each_word(self):
        self.clear(("and", CAT, DOG), CAT, DOG)
        self.clear(("or", CAT, DOG), DOG)
        self.clear(("or", CAT, DOG), CAT)
        self.clear(SOME_CAT, BOB)
        self.clear(("some", "x", CAT), CAT)
        self.clear(("if", CAT, DOG), DOG)
        self.clear(("if", CAT, CAT))
        self.clear(("if", FALSE, DOG))
        self.clear(("not", ("not", CAT)), CAT)
        self.clear(("not", FALSE))
        self.clear(("every", "y", ("same", "y", "y")))
        self.clear(("every", "y", CAT), CAT)
        self.clear(("every", "y", ("is", "y", "cat")), ("every", "x", ("is", "x", "cat")))

    def test_several_steps(self):
        cows = every_if("y", "cat", "cow")
        self.clear(cows, every_if("x", "cat", "dog"), every_if("z", "dog", "cow"), vocabulary=COW)
        self.clear(("and", cows, cows), every_if("x", "cat", "dog"), every_if("z", "dog", "cow"), vocabulary=COW)
        self.clear(("or", BOB, ("and", ("if", DOG, CAT), ("not", ("not", CAT)))), CAT)
        self.clear(("every", "x", ("every", "y", ("some", "z", ("same", "z", "x")))))
        self.clear(("if", CAT, ("if", DOG, ("and", DOG, CAT))))
        self.clear(("and", ("if", CAT, CAT), ("and", ("if", CAT, CAT), ("not", FALSE))))

    def test_two_new_names(self):
        goal = ("and", ("every", "x", ("same", "x", "x")), ("every", "y", ("every", "z", ("same", "z", "z"))))
        lines = self.clear(goal)
        self.assertEqual(len({line[2][1] for line in lines if line[2][0] == "any"}), 3)

    def test_new_names_unlike_all_others(self):
        goal = ("every", "x", ("same", "x", "x"))
        # Each great letter stands for itself in the vocabulary, or in a box behind the line.
        letters = tuple("ABCDEFGHIJKLMNOPQRSTUVWXYZ")
        told, _ = self.written((((letters, (), ())), (), (clearly(0, goal),)))
        self.assertNotIn(told[2][0][2][1], letters)
        lines = [clearly(0, goal)]
        for letter in letters + ("Aa", "Ba"):
            lines += [(1, ("same", letter, letter), ("any", letter)), (0, goal, ("forany", len(lines) + 1))]
        self.written((((), (), ()), (), tuple(lines)))

    def test_within_boxes(self):
        self.written((SMALL, (), (
            given(SOME_CAT), (1, ZED_CAT, ("called", "Zed", 1)), clearly(1, ("some", "y", ("or", DOG, ("is", "y", "cat")))),
            (0, ("some", "y", ("or", DOG, ("is", "y", "cat"))), ("forsome", 2)))))
        self.written((SMALL, (), (
            supposed(1, CAT), supposed(2, DOG), clearly(2, ("if", BOB, ("and", CAT, DOG))), clearly(1, ("if", DOG, CAT)),
            (0, ("if", CAT, ("if", DOG, CAT)), ("soif", 1)), clearly(0, ("if", CAT, ("if", DOG, CAT))))))

    def test_behind_a_box(self):
        # The steps open a box of their own just behind another one, which a line behind them leans on.
        start = (given(DOG), supposed(1, CAT), (1, DOG, ("again", 1)))
        self.written((SMALL, (), start + (clearly(0, ("if", BOB, DOG)), (0, ("if", CAT, DOG), ("soif", 2)))))
        self.written((SMALL, (), start + (supposed(2, BOB), clearly(1, ("not", FALSE)), (0, ("if", CAT, ("not", FALSE)), ("soif", 2)))))
        self.written((SMALL, (), start + (supposed(2, BOB), clearly(0, ("not", FALSE)), (0, DOG, ("again", 1)))))
        self.written((SMALL, (), (
            supposed(1, CAT), supposed(2, DOG), supposed(3, BOB), clearly(0, ("every", "x", ("if", CAT, CAT))))))

    def test_only_lines_to_which_it_is_open(self):
        self.refused(2, supposed(1, CAT), clearly(0, CAT))
        self.refused(3, supposed(1, CAT), supposed(1, DOG), clearly(1, CAT), clearly(0, CAT))
        self.refused(2, given(DOG), clearly(0, CAT), clearly(0, CAT))

    def test_the_names_at_the_line(self):
        every = ("every", "x", ("is", "x", "cat"))
        self.written((SMALL, (), (given(every), (1, ZED, ("any", "Zed")), clearly(1, ZED_CAT), clearly(0, CAT))))
        # Of the name of a box that is done, nothing is known.
        nameless = ((), ("cat",), ())
        argument = (nameless, (), (given(every), (1, ZED, ("any", "Zed")), clearly(1, SOME_CAT), clearly(0, SOME_CAT)))
        with self.assertRaises(Lacks) as caught:
            written_out(argument)
        self.assertEqual(caught.exception.line, 4)

    def test_four_steps(self):
        goal = CAT
        for deep in range(1, 7):
            goal = ("or", DOG, goal)
            if deep <= 4:
                self.clear(goal, CAT)
            else:
                self.refused(2, given(CAT), clearly(0, goal))

    def test_steps_of_one_line_are_none_for_another(self):
        deep = ("and", ("and", ("and", ("and", CAT, DOG), DOG), DOG), DOG)
        pair = ("and", CAT, DOG)
        self.refused(2, given(deep), clearly(0, CAT))
        new, _ = self.written((SMALL, (), (given(deep), clearly(0, pair), clearly(0, CAT))))
        self.assertEqual(new[2][-1][2][0], "left")
        # The pair stands among the steps ahead of line 2, but it is none of the lines to which line 3 is open.
        new, _ = self.written((SMALL, (), (given(deep), clearly(0, ("or", pair, BOB)))))
        self.assertIn(pair, [line[1] for line in new[2]])
        self.refused(3, given(deep), clearly(0, ("or", pair, BOB)), clearly(0, CAT))

    def test_meanings_are_not_looked_into(self):
        self.refused(2, given(("is", "Ann", "pet")), clearly(0, ("or", CAT, DOG)), meanings=MEANINGS)
        self.written((SMALL, MEANINGS, (given(("is", "Ann", "pet")), by(0, ("or", CAT, DOG), 1), clearly(0, ("some", "x", ("is", "x", "pet"))))))


class Refusals(Asking):
    def test_lines_that_are_not_right(self):
        self.refused(2, given(CAT), (0, DOG, ("again", 1)))
        self.refused(2, given(CAT), (0, DOG, ("again", 1)), (0, BOB, ("again", 1)))
        self.refused(3, given(CAT), (0, CAT, ("again", 1)), (0, DOG, ("again", 1)), clearly(0, BOB))
        self.refused(2, given(CAT), clearly(0, BOB), (0, DOG, ("again", 1)))
        self.refused(1, (1, CAT, ("any", "Zed")), clearly(0, BOB))
        self.refused(3, given(CAT), clearly(0, CAT), given(CAT))
        self.refused(2, given(CAT), (0, CAT, ("again", 3)), (0, CAT, ("again", 1)))

    def great(self, *lines, many=None):
        with self.assertRaises(TooGreat) as caught:
            written_out((SMALL, (), lines))
        self.assertEqual(caught.exception.most, 200)
        if many:
            self.assertEqual(caught.exception.many, many)

    def test_too_great(self):
        # Fifteen names and an every within an every: 1, 16, then 241 forms, and N is N of each of the thirteen.
        names = tuple("N" + letter for letter in "abcdefghijklm")
        start = [given(("every", "x", ("every", "y", ("does", "sees", "x", "y"))))]
        for at, name in enumerate(names):
            start.append((at + 1, ("same", name, name), ("any", name)))
        lines = tuple(start) + (clearly(13, CAT), clearly(0, ("or", CAT, ("not", FALSE))))
        self.great(*lines, many=1 + 15 + 15 * 15 + 13)
        # Where the line that lacks comes first, it is refused so.
        self.refused(2, start[0], (0, DOG, ("again", 1)), *(
            (level, form, reason) for level, form, reason in start[1:]), clearly(13, CAT), clearly(0, CAT))
        self.refused(2, start[0], clearly(0, CAT), *start[1:], clearly(13, CAT), clearly(0, CAT))
        self.great(*start, clearly(13, CAT), (0, DOG, ("again", 1)), many=1 + 15 + 15 * 15 + 13)
        # Other reasons know nothing.
        self.written((SMALL, (), tuple(start) + (by(13, ("every", "y", ("does", "sees", "Ann", "y")), 1), clearly(0, ("not", FALSE)))))

    def test_too_great_within_a_step(self):
        atoms = [("is", name, kind) for name in SMALL[0] for kind in SMALL[1]]
        told = [("or", one, ("or", two, three)) for one in atoms for two in atoms for three in atoms]
        told += [("or", ("or", one, two), three) for one in atoms for two in atoms for three in atoms]
        several = zip(told[4::4], told[5::4], told[6::4], told[7::4])
        # Seven forms are known of each: with four alone there are 200.
        forms = told[:4] + [("and", ("and", one, two), ("and", three, four)) for one, two, three, four in several][:28]
        lines = tuple(given(form) for form in forms)
        self.written((SMALL, (), lines + (clearly(0, told[5]),)))
        self.written((SMALL, (), lines + (clearly(0, ("if", told[5], told[6])),)))
        self.great(*lines, clearly(0, ("if", atoms[0], told[6])), many=201)
        self.great(*lines, clearly(0, ("not", ("and", atoms[0], atoms[1]))), many=203)
        self.great(*lines, clearly(0, ("or", ("every", "x", ("is", "x", "cat")), told[5])), many=201)
        self.written((SMALL, (), lines + (clearly(0, ("or", told[5], ("if", atoms[0], told[6]))),)))
        self.refused(len(lines) + 1, *lines, clearly(0, ("and", atoms[0], ("if", atoms[0], told[6]))))

class EarlierOnes(Asking):
    EARLIER = (("joined", BOTH), ("first", FIRST))

    def test_leaning(self):
        argument = (SMALL, (), (given(CAT), clearly(0, ("or", ("or", CAT, CAT), DOG)), clearly(0, ("if", DOG, CAT)), supposed(1, DOG),
                                (1, CAT, ("earlier", "first", (1, 4))), (0, ("if", DOG, CAT), ("soif", 4))))
        new, numbers = self.written(argument, self.EARLIER)
        self.assertEqual(new[2][numbers[4] - 1][2], ("earlier", "first", (1, numbers[3])))
        self.refused(5, *argument[2])
        self.refused(5, *argument[2], earlier=self.EARLIER[:1])
        self.refused(5, *argument[2], earlier=(self.EARLIER[1], self.EARLIER[0]))

    def test_not_let_by(self):
        self.refused(2, given(CAT), (0, DOG, ("earlier", "other", (1,))), earlier=(("other", NOT_LET_BY),))


def with_gaps(chance, argument):
    """An argument with reasons of some lines left to the clerk."""
    vocabulary, meanings, lines = argument
    told = []
    for level, form, reason in lines:
        numbers = [piece for piece in reason[1:] if isinstance(piece, int)]
        if reason[0] in ("given", "supposed", "any", "called") or chance.random() < 0.4:
            told.append((level, form, reason))
        elif reason[0] in PLAIN and chance.random() < 0.5:
            chance.shuffle(numbers)
            told.append((level, form, ("by", tuple(numbers))))
        else:
            told.append((level, form, CLEARLY))
    return (vocabulary, meanings, tuple(told))


def first_refused(argument):
    """The first line that is refused, by the words of the document; None where there is none."""
    lines = argument[2]
    for k, (_, form, reason) in enumerate(lines, 1):
        if reason[0] == "by":
            right = slow_by_rule(argument, k) is not None and set(reason[1]) <= set(slow_open_to(lines, k))
        elif reason == CLEARLY:
            forms = tuple(lines[m - 1][1] for m in slow_open_to(lines, k))
            right = slow_reached(slow_names(argument, k), forms, form)
        else:
            right = slow_right(argument, k)
        if not right:
            return k
    return None


class ByChance(Asking):
    def look(self, argument):
        """Whether an argument is written out, or refused; both as it should be."""
        try:
            line = first_refused(argument)
        except TooGreat as refusal:
            with self.assertRaises(TooGreat) as caught:
                written_out(argument)
            self.assertEqual(caught.exception.many, refusal.many)
            return False
        if line is not None:
            with self.assertRaises(Lacks) as caught:
                written_out(argument)
            self.assertEqual(caught.exception.line, line, argument)
            return False
        new, numbers = self.written(argument)
        self.assertEqual(unsound_lines(new), [], argument)
        return True

    def test_arguments_with_gaps(self):
        chance = random.Random(27)
        told = {True: 0, False: 0}
        for _ in range(150):
            argument = with_gaps(chance, random_argument(chance, 10))
            while not self.look(argument):
                told[False] += 1
                # The line that is refused is left out, if it can be.
                argument = bent_argument(chance, argument)
                if not is_argument(argument):
                    break
            else:
                told[True] += 1
        self.assertGreater(min(told.values()), 25)

    def test_goals(self):
        chance = random.Random(271)
        told = {True: 0, False: 0}
        for _ in range(400):
            forms = tuple(random_form(chance, 4) for _ in range(chance.randrange(1, 5)))
            goal = random_form(chance, 5, words=("not", "and", "or", "if", "every", "some"))
            if chance.random() < 0.6:
                goal = (chance.choice(("or", "if", "and")), goal, chance.choice(forms))
            lines = tuple(given(form) for form in forms)
            if chance.random() < 0.3:
                lines += (supposed(1, random_form(chance, 3)), (2, ZED, ("any", "Zed")), clearly(2, goal), clearly(0, ("not", FALSE)))
            else:
                lines += (clearly(0, goal),)
            told[self.look((SMALL, (), lines))] += 1
        self.assertGreater(min(told.values()), 60)


if __name__ == "__main__":
    unittest.main()

"""[32], [33]: arguments turned to a contradiction, and out of it, and NoTurn."""

import random
import unittest

from linecourt.arguments import is_argument, shown
from linecourt.checker import lets_by
from linecourt.errors import NoTurn
from linecourt.turning import out_of_contrary, to_contrary
from tests.arguing import MEANINGS, bent_argument, random_argument, unsound_lines
from tests.making import FALSE, SMALL, bends, clearly, given, supposed, total
from tests.test_filling import moved

CAT, DOG, BOB = ("is", "Ann", "cat"), ("is", "Ann", "dog"), ("is", "Bob", "cat")
EITHER = ("or", CAT, DOG)
ZED = ("same", "Zed", "Zed")
PLAIN = (SMALL, (), (given(BOB), given(CAT), (0, EITHER, ("orleft", 2)), (0, ("and", EITHER, BOB), ("both", 3, 1))))


def slow_to_contrary(argument):
    """Line by line, by counting."""
    lines = argument[2]
    many = [line[2] for line in lines].count(("given",))
    numbers = [k + (k > many) for k in range(1, len(lines) + 1)]
    told = list(lines[:many]) + [(1, ("not", lines[-1][1]), ("supposed",))]
    for level, form, reason in lines[many:]:
        told.append((level + 1, form, moved(reason, numbers)))
    told.append((1, FALSE, ("absurd", len(told) if len(lines) > many else many, many + 1)))
    told.append((0, lines[-1][1], ("contrary", many + 1)))
    return argument[:2] + (tuple(told),)


class Asking(unittest.TestCase):
    def turn(self, argument):
        """What is turned, looked at for all that is promised of it."""
        self.assertIs(lets_by(argument), True, argument)
        told = to_contrary(argument)
        self.assertEqual(told, slow_to_contrary(argument))
        self.assertTrue(is_argument(told), argument)
        self.assertIs(lets_by(told), True, argument)
        self.assertEqual(shown(told), shown(argument))
        self.assertEqual(out_of_contrary(told), argument)
        return told

    def no_turn(self, argument):
        with self.assertRaises(NoTurn):
            out_of_contrary(argument)

    def look(self, argument):
        """Either it is refused, or it is what the told argument, let by, is turned to."""
        if not is_argument(argument):
            return None
        try:
            told = out_of_contrary(argument)
        except NoTurn:
            return False
        self.assertIs(lets_by(told), True)
        self.assertEqual(slow_to_contrary(told), argument)
        return True


class Turned(Asking):
    def test_the_lines(self):
        last = ("and", EITHER, BOB)
        self.assertEqual(self.turn(PLAIN), (SMALL, (), (
            given(BOB), given(CAT), supposed(1, ("not", last)), (1, EITHER, ("orleft", 2)), (1, last, ("both", 4, 1)),
            (1, FALSE, ("absurd", 5, 3)), (0, last, ("contrary", 3)))))

    def test_the_last_line_given(self):
        self.assertEqual(self.turn((SMALL, (), (given(CAT),)))[2], (
            given(CAT), supposed(1, ("not", CAT)), (1, FALSE, ("absurd", 1, 2)), (0, CAT, ("contrary", 2))))
        self.assertEqual(self.turn((SMALL, (), (given(CAT), given(DOG))))[2], (
            given(CAT), given(DOG), supposed(1, ("not", DOG)), (1, FALSE, ("absurd", 2, 3)), (0, DOG, ("contrary", 3))))

    def test_no_givens(self):
        self.assertEqual(self.turn((SMALL, (), ((0, ("same", "Ann", "Ann"), ("itself",)),)))[2], (
            supposed(1, ("not", ("same", "Ann", "Ann"))), (1, ("same", "Ann", "Ann"), ("itself",)), (1, FALSE, ("absurd", 2, 1)),
            (0, ("same", "Ann", "Ann"), ("contrary", 1))))

    def test_boxes(self):
        argument = (SMALL, (), (
            given(CAT), (1, ZED, ("any", "Zed")), supposed(2, DOG), (2, CAT, ("again", 1)), (1, ("if", DOG, CAT), ("soif", 3)),
            (0, ("every", "x", ("if", DOG, CAT)), ("forany", 2))))
        last = argument[2][-1][1]
        self.assertEqual(self.turn(argument)[2], (
            given(CAT), supposed(1, ("not", last)), (2, ZED, ("any", "Zed")), supposed(3, DOG), (3, CAT, ("again", 1)),
            (2, ("if", DOG, CAT), ("soif", 4)), (1, last, ("forany", 3)), (1, FALSE, ("absurd", 7, 2)), (0, last, ("contrary", 2))))

    def test_sums_and_meanings(self):
        count = ("least", total(0, cat=1), total(1))
        self.assertEqual(self.turn((SMALL, (), (given(CAT), (0, count, ("one", 1)), (0, count, ("sums", (2, 2), (1, 0))))))[2][3], (
            1, count, ("sums", (3, 3), (1, 0))))
        self.turn((SMALL, MEANINGS, (given(EITHER), (0, ("is", "Ann", "pet"), ("meaning", 1)))))

    def test_eight_levels_and_more(self):
        argument = (SMALL, (), tuple(supposed(level, CAT) for level in range(1, 9)) + ((0, ("same", "Ann", "Ann"), ("itself",)),))
        for _ in range(5):
            argument = self.turn(argument)

    def test_turned_again(self):
        twice = self.turn(self.turn(PLAIN))
        self.assertEqual(out_of_contrary(out_of_contrary(twice)), PLAIN)
        self.no_turn(PLAIN)

    def test_a_contradiction_itself(self):
        argument = (SMALL, (), (given(CAT), given(("not", CAT)), (0, FALSE, ("absurd", 1, 2))))
        self.assertEqual(self.turn(argument)[2][2], supposed(1, ("not", FALSE)))


class NoTurns(Asking):
    TURNED = to_contrary(PLAIN)

    def test_what_is_no_contradiction(self):
        for argument in (PLAIN, (SMALL, (), (given(CAT),)), (SMALL, (), (given(CAT), given(CAT))), (SMALL, (), (given(CAT), (0, CAT, ("again", 1)))),
                         (SMALL, (), (supposed(1, CAT), (0, ("if", CAT, CAT), ("soif", 1))))):
            self.assertIs(lets_by(argument), True)
            self.no_turn(argument)

    def test_not_let_by(self):
        lines = self.TURNED[2]
        for at in range(2, len(lines)):
            self.no_turn((SMALL, (), lines[:at] + (clearly(*lines[at][:2]),) + lines[at + 1:]))
        self.no_turn((SMALL, (), (given(CAT), (0, DOG, ("again", 1)))))
        # Not what is turned from what isn't let by.
        bad = (SMALL, (), (given(CAT), (0, DOG, ("again", 1))))
        self.assertTrue(is_argument(slow_to_contrary(bad)))
        self.no_turn(slow_to_contrary(bad))

    def test_a_line_less_or_more(self):
        lines = self.TURNED[2]
        for at in range(len(lines)):
            for new in (lines[:at] + lines[at + 1:], lines[:at] + lines[at:at + 1] + lines[at:]):
                if new and new[-1][0] == 0 and is_argument((SMALL, (), new)):
                    self.no_turn((SMALL, (), new))
        last = ("and", EITHER, BOB)
        # Let by, but with a line too much behind, or ahead, or between those that are put in.
        for new in (
                lines + ((0, last, ("again", 7)),), lines[:6] + ((1, FALSE, ("again", 6)), (0, last, ("contrary", 3))),
                lines[:6] + ((0, ("same", "Ann", "Ann"), ("itself",)),) + lines[6:]):
            self.assertIs(lets_by((SMALL, (), new)), True)
            self.no_turn((SMALL, (), new))

    def test_what_leans_on_what_is_supposed(self):
        # Let by, and of the right shape; but a line leans on the supposed one: no argument is turned to it.
        denied = ("not", CAT)
        lines = (given(CAT), supposed(1, denied), (1, denied, ("again", 2)), (1, CAT, ("again", 1)), (1, FALSE, ("absurd", 4, 2)),
                 (0, CAT, ("contrary", 2)))
        self.assertIs(lets_by((SMALL, (), lines)), True)
        self.no_turn((SMALL, (), lines))
        right = lines[:2] + ((1, CAT, ("again", 1)), (1, CAT, ("again", 3)), (1, FALSE, ("absurd", 4, 2)), (0, CAT, ("contrary", 2)))
        self.assertEqual(out_of_contrary((SMALL, (), right)), (SMALL, (), (given(CAT), (0, CAT, ("again", 1)), (0, CAT, ("again", 2)))))
        # Absurd by other lines than the last and the supposed one.
        for reason in (("absurd", 3, 2), ("absurd", 1, 2)):
            lines = right[:4] + ((1, FALSE, reason),) + right[5:]
            self.assertIs(lets_by((SMALL, (), lines)), True)
            self.no_turn((SMALL, (), lines))
        # Without givens, leaning on the first line.
        lines = (supposed(1, ("not", ("same", "Ann", "Ann"))), (1, ("or", CAT, ("not", ("same", "Ann", "Ann"))), ("orright", 1)),
                 (1, ("same", "Ann", "Ann"), ("itself",)), (1, FALSE, ("absurd", 3, 1)), (0, ("same", "Ann", "Ann"), ("contrary", 1)))
        self.assertIs(lets_by((SMALL, (), lines)), True)
        self.no_turn((SMALL, (), lines))

    def test_the_reason_not_in_the_place_of_contrary(self):
        lines = (given(CAT), supposed(1, ("not", CAT)), (1, FALSE, ("absurd", 1, 2)), (0, ("not", ("not", CAT)), ("not", 2)))
        self.assertIs(lets_by((SMALL, (), lines)), True)
        self.no_turn((SMALL, (), lines))

    def test_each_place_put_otherwise(self):
        for argument in (self.TURNED, to_contrary((SMALL, (), (given(CAT),)))):
            lines = argument[2]
            for at, (level, form, reason) in enumerate(lines):
                others = [(level + 1, form, reason), (max(0, level - 1), form, reason)] + [(level, bent, reason) for bent in bends(form)]
                others += [(level, form, other[2]) for other in lines]
                for place in range(1, len(reason)):
                    others += [(level, form, reason[:place] + (k,) + reason[place + 1:]) for k in range(1, len(lines) + 1)]
                for other in others:
                    if other != lines[at]:
                        self.look(argument[:2] + (lines[:at] + (other,) + lines[at + 1:],))


class ByChance(Asking):
    def test_by_chance(self):
        chance = random.Random(34)
        told = {None: 0, True: 0, False: 0}
        for _ in range(120):
            argument = random_argument(chance, 10, chance.choice(((), MEANINGS)))
            turned = self.turn(argument)
            if chance.random() < 0.2:
                self.assertEqual(unsound_lines(turned), [])
            for _ in range(10):
                bent = bent_argument(chance, turned)
                if bent != turned:
                    told[self.look(bent)] += 1
            if argument != turned:
                told[self.look(argument)] += 1
        self.assertGreater(told[False], 200, told)


if __name__ == "__main__":
    unittest.main()

"""[32], [33]: arguments renumbered by an order, and NoOrder."""

import itertools
import random
import unittest

from linecourt.arguments import is_argument, shown
from linecourt.checker import lets_by
from linecourt.errors import NoOrder
from linecourt.orders import renumbered
from tests.arguing import MEANINGS, random_argument
from tests.making import FALSE, SMALL, clearly, given, supposed, total
from tests.samples import ODD_THINGS
from tests.test_filling import moved

CAT, DOG, BOB = ("is", "Ann", "cat"), ("is", "Ann", "dog"), ("is", "Bob", "cat")
EITHER = ("or", CAT, DOG)
ARGUMENT = (SMALL, (), (
    given(CAT), given(DOG), given(BOB), (0, EITHER, ("orleft", 1)), (0, ("and", DOG, BOB), ("both", 2, 3)),
    (0, ("and", EITHER, ("and", DOG, BOB)), ("both", 4, 5))))


def slow_renumbered(argument, order):
    lines = argument[2]
    numbers = [order.index(k) + 1 for k in range(1, len(lines) + 1)]
    return argument[:2] + (tuple(lines[k - 1][:2] + (moved(lines[k - 1][2], numbers),) for k in order),)


def is_order(argument, order):
    lines = argument[2]
    words = [lines[k - 1][2][0] == "given" for k in order]
    return sorted(order) == list(range(1, len(lines) + 1)) and order[-1] == len(lines) and words == sorted(words, reverse=True)


class Asking(unittest.TestCase):
    def fine(self, argument, order):
        """What is renumbered, looked at for all that is promised of it."""
        told = renumbered(argument, order)
        self.assertEqual(told, slow_renumbered(argument, order))
        self.assertTrue(is_argument(told))
        self.assertIs(lets_by(told), True)
        self.assertEqual(shown(told)[1], shown(argument)[1])
        self.assertEqual(sorted(shown(told)[0]), sorted(shown(argument)[0]))
        return told

    def no_order(self, order, argument=ARGUMENT):
        with self.assertRaises(NoOrder):
            renumbered(argument, order)


class Renumbered(Asking):
    def test_the_order_of_the_lines_itself(self):
        self.assertEqual(self.fine(ARGUMENT, (1, 2, 3, 4, 5, 6)), ARGUMENT)
        self.assertEqual(self.fine((SMALL, (), (given(CAT),)), (1,)), (SMALL, (), (given(CAT),)))

    def test_line_p_is_the_old_one_of_the_number_at_place_p(self):
        self.assertEqual(self.fine(ARGUMENT, (2, 3, 1, 5, 4, 6))[2], (
            given(DOG), given(BOB), given(CAT), (0, ("and", DOG, BOB), ("both", 1, 2)), (0, EITHER, ("orleft", 3)),
            (0, ("and", EITHER, ("and", DOG, BOB)), ("both", 5, 4))))
        self.assertEqual(self.fine(ARGUMENT, (3, 1, 2, 4, 5, 6))[2][4], (0, ("and", DOG, BOB), ("both", 3, 1)))

    def test_all_orders(self):
        may = 0
        for order in itertools.permutations(range(1, 7)):
            if is_order(ARGUMENT, order):
                may += 1
                self.fine(ARGUMENT, order)
            else:
                self.no_order(order)
        self.assertEqual(may, 12)

    def test_sums_and_earlier_numbers(self):
        counts = [("least", total(0, cat=1), total(1)), ("least", total(0, dog=1), total(2))]
        both = ("least", total(0, cat=1, dog=2), total(5))
        argument = (SMALL, (), (given(counts[0]), given(counts[1]), (0, both, ("sums", (1, 2), (1, 2)))))
        self.assertEqual(self.fine(argument, (2, 1, 3))[2], (given(counts[1]), given(counts[0]), (0, both, ("sums", (2, 1), (1, 2)))))

    def test_boxes_change_places(self):
        argument = (SMALL, (), (
            supposed(1, CAT), (1, EITHER, ("orleft", 1)), supposed(1, DOG), (1, EITHER, ("orright", 3)),
            (0, ("if", CAT, EITHER), ("soif", 1)), (0, ("if", DOG, EITHER), ("soif", 3)),
            (0, ("and", ("if", CAT, EITHER), ("if", DOG, EITHER)), ("both", 5, 6))))
        self.assertEqual(self.fine(argument, (3, 4, 1, 2, 6, 5, 7))[2], (
            supposed(1, DOG), (1, EITHER, ("orright", 1)), supposed(1, CAT), (1, EITHER, ("orleft", 3)),
            (0, ("if", DOG, EITHER), ("soif", 1)), (0, ("if", CAT, EITHER), ("soif", 3)),
            (0, ("and", ("if", CAT, EITHER), ("if", DOG, EITHER)), ("both", 6, 5))))
        self.fine(argument, (1, 2, 5, 3, 4, 6, 7))
        # Out of its box a line is none, or not open to what it leans on.
        for order in ((1, 3, 2, 4, 5, 6, 7), (2, 1, 3, 4, 5, 6, 7), (1, 2, 3, 5, 4, 6, 7), (1, 4, 3, 2, 5, 6, 7)):
            self.no_order(order, argument)

    def test_an_argument_that_an_order_makes_right(self):
        # Line 2 leans on what stands behind it: what comes is let by.
        argument = (SMALL, (), (given(CAT), (0, EITHER, ("again", 3)), (0, EITHER, ("orleft", 1)), (0, EITHER, ("again", 2))))
        self.assertIs(lets_by(argument), False)
        self.fine(argument, (1, 3, 2, 4))
        self.no_order((1, 2, 3, 4), argument)


class NoOrders(Asking):
    def test_numbers(self):
        for order in (
                (1, 2, 3, 4, 4, 6), (1, 1, 3, 4, 5, 6), (1, 2, 3, 4, 5, 6, 6), (6, 1, 2, 3, 4, 5, 6), (1, 2, 3, 4, 6), (1, 2, 3, 4, 5), (),
                (6,), (1, 2, 3, 4, 5, 6, 7), (1, 2, 3, 4, 7, 6), (0, 1, 2, 3, 4, 5), (0, 2, 3, 4, 5, 6), (-1, 2, 3, 4, 5, 6), (1, 2, 3, 4, -2, 6),
                (1, 2, 3, 4, 10 ** 12 - 1, 6), (0, 1, 2, 3, 4, 5, 6)):
            self.no_order(order)

    def test_a_number_twice_though_it_would_be_let_by(self):
        argument = (SMALL, (), (given(CAT), (0, EITHER, ("orleft", 1)), (0, EITHER, ("orleft", 1)), (0, CAT, ("again", 1))))
        self.fine(argument, (1, 3, 2, 4))
        for order in ((1, 1, 2, 4), (1, 1, 1, 4), (1, 2, 2, 4), (1, 3, 3, 4), (1, 2, 4, 4), (1, 2, 2, 3, 4), (1, 2, 4), (1, 4)):
            self.no_order(order, argument)

    def test_the_last_one_not_last(self):
        for order in ((1, 2, 3, 4, 6, 5), (1, 2, 3, 6, 5, 4), (6, 5, 4, 3, 2, 1)):
            self.no_order(order)
        # Though it would be let by.
        argument = (SMALL, (), (given(CAT), (0, EITHER, ("orleft", 1)), (0, EITHER, ("orleft", 1))))
        self.no_order((1, 3, 2), argument)
        self.no_order((2, 1), (SMALL, (), (given(CAT), given(CAT))))

    def test_a_given_one_behind_another(self):
        for order in ((1, 2, 4, 3, 5, 6), (4, 1, 2, 3, 5, 6), (1, 4, 2, 3, 5, 6)):
            self.no_order(order)

    def test_not_let_by(self):
        argument = (SMALL, (), (given(CAT), (0, EITHER, ("orleft", 1)), (0, ("or", EITHER, BOB), ("orleft", 2)), (0, CAT, ("again", 1))))
        self.fine(argument, (1, 2, 3, 4))
        self.no_order((1, 3, 2, 4), argument)
        # In none, where the argument isn't.
        argument = (SMALL, (), (given(CAT), clearly(0, CAT), (0, CAT, ("again", 1))))
        self.no_order((1, 2, 3), argument)
        self.no_order((1, 2), (SMALL, (), (given(CAT), (0, DOG, ("again", 1)))))
        self.no_order((1, 2), (SMALL, (), (given(CAT), (0, CAT, ("earlier", "first", (1,))))))

    def test_things_that_are_no_whole_numbers(self):
        for thing in ODD_THINGS + ("1", "x", (1,), (1, 2, 3, 4, 5, 6)):
            if isinstance(thing, int) and not isinstance(thing, bool):
                continue
            for at in range(6):
                order = [1, 2, 3, 4, 5, 6]
                order[at] = thing
                self.no_order(tuple(order))
        one = (SMALL, (), (given(CAT),))
        self.no_order((True,), one)
        self.fine(one, (1,))
        self.no_order((True, 2, 3, 4, 5, 6))


class ByChance(Asking):
    def test_by_chance(self):
        chance = random.Random(33)
        told = {True: 0, False: 0}
        for _ in range(120):
            argument = random_argument(chance, 9, chance.choice(((), MEANINGS)))
            last = len(argument[2])
            self.assertEqual(self.fine(argument, tuple(range(1, last + 1))), argument)
            for _ in range(12):
                order = list(range(1, last + 1))
                for _ in range(chance.randrange(1, 4)):
                    at, to = chance.randrange(last), chance.randrange(last)
                    order.insert(to, order.pop(at))
                order = tuple(order)
                may = is_order(argument, order) and lets_by(slow_renumbered(argument, order))
                told[may] += 1
                if may:
                    self.fine(argument, order)
                    # And back again.
                    back = tuple(order.index(k) + 1 for k in range(1, last + 1))
                    self.assertEqual(renumbered(renumbered(argument, order), back), argument)
                else:
                    self.no_order(order, argument)
        self.assertGreater(min(told.values()), 100, told)

    def test_contradictions_in_another_order(self):
        argument = (SMALL, (), (given(("not", CAT)), given(CAT), (0, FALSE, ("absurd", 2, 1))))
        self.assertEqual(self.fine(argument, (2, 1, 3))[2], (given(CAT), given(("not", CAT)), (0, FALSE, ("absurd", 1, 2))))


if __name__ == "__main__":
    unittest.main()

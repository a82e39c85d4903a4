"""[7], [8]: worlds, all of a size, and their number."""

import itertools
import unittest

from linecourt.worlds import how_many, how_many_up_to, is_world, worlds_of
from tests.samples import ODD_TEXTS, ODD_THINGS

FULL = (("Ann", "Bob"), ("cat", "dog"), ("likes", "sees"))
WORLD = (
    3,
    (("Ann", 2), ("Bob", 2)),
    (("cat", (0, 2)), ("dog", ())),
    (("likes", ((0, 1), (1, 0), (1, 1))), ("sees", ())),
)
SMALL_VOCABULARIES = (
    ((), (), ()), (("Ann",), (), ()), (("Ann", "Bob"), (), ()), ((), ("cat",), ()), ((), ("cat", "dog"), ()),
    ((), (), ("sees",)), (("Ann",), ("cat",), ()), (("Ann",), (), ("sees",)), ((), ("cat",), ("sees",)),
    (("Ann", "Bob"), ("cat", "dog"), ("sees",)), (("Ann",), ("cat",), ("likes", "sees")),
)


def swapped(row, at, piece):
    return row[:at] + (piece,) + row[at + 1:]


def subsets(things):
    return [tuple(some) for many in range(len(things) + 1) for some in itertools.combinations(things, many)]


def told(words, worths):
    return [tuple(zip(words, row)) for row in itertools.product(worths, repeat=len(words))]


def all_worlds(vocabulary, size):
    things = range(size)
    pairs = list(itertools.product(things, repeat=2))
    return sorted(
        (size, names, kinds, doings)
        for names in told(vocabulary[0], things)
        for kinds in told(vocabulary[1], subsets(things) if vocabulary[1] else [])
        for doings in told(vocabulary[2], subsets(pairs) if vocabulary[2] else [])
    )


def number(vocabulary, size):
    names, kinds, doings = (len(row) for row in vocabulary)
    return size ** names * 2 ** (size * kinds + size * size * doings)


class WhatIsAWorld(unittest.TestCase):
    def no_world(self, thing, vocabulary=FULL):
        self.assertIs(is_world(vocabulary, thing), False, repr(thing)[:200])

    def test_worlds(self):
        self.assertIs(is_world(FULL, WORLD), True)
        for many in (3, 4, 1000, 10 ** 12):
            self.assertIs(is_world(FULL, swapped(WORLD, 0, many)), True)
        self.assertIs(is_world(((), (), ()), (1, (), (), ())), True)
        self.assertIs(is_world(((), (), ("sees",)), (1, (), (), (("sees", ((0, 0),)),))), True)
        every = tuple((one, other) for one in range(20) for other in range(20))
        self.assertIs(is_world(((), ("cat",), ("sees",)), (20, (), (("cat", tuple(range(20))),), (("sees", every),))), True)

    def test_how_many_things(self):
        for many in (0, -1, 1, 2, True, False, None, "3", (3,), [3]):
            self.no_world(swapped(WORLD, 0, many))
        for many in (0, -1, True, False, None, "1", ()):
            self.no_world((many, (), (), ()), ((), (), ()))

    def test_each_part_left_out_put_in_put_otherwise(self):
        for at in range(4):
            self.no_world(WORLD[:at] + WORLD[at + 1:])
            self.no_world(WORLD[:at] + WORLD[at:at + 1] + WORLD[at:])
            for thing in ODD_THINGS + ODD_TEXTS:
                # Of more than three things it is a world, too.
                if at > 0 or not isinstance(thing, int) or thing < 3:
                    self.no_world(swapped(WORLD, at, thing))
            for other in range(4):
                if other != at:
                    self.no_world(swapped(WORLD, at, WORLD[other]))
            if at > 0:
                self.no_world(swapped(WORLD, at, list(WORLD[at])))
        self.no_world(WORLD + ((),))
        self.no_world(list(WORLD))

    def test_each_row_left_out_doubled_out_of_order(self):
        for at in range(1, 4):
            rows = WORLD[at]
            for wrong in (rows[:1], rows[1:], (), rows[::-1], rows + rows[:1], rows + rows[1:], rows[:1] + rows,
                          (rows[0], rows[0]), (rows[1], rows[1]), (rows[0], None), (rows[0], ()), (rows[0], rows[1][0]),
                          (rows[0], list(rows[1])), (list(rows[0]), rows[1]), (rows[0], rows[1][:1]),
                          (rows[0], rows[1] + (0,)), (rows[0], rows[1][::-1]), (rows[0], ("zoe", rows[1][1])),
                          (rows[0], (None, rows[1][1])), (rows[0], (b"Bob", rows[1][1]))):
                self.no_world(swapped(WORLD, at, wrong))

    def test_a_word_that_the_vocabulary_lacks(self):
        self.no_world((1, (("Ann", 0),), (), ()), ((), (), ()))
        self.no_world((1, (), (("cat", ()),), ()), ((), (), ()))
        self.no_world((1, (), (("cat", ()),), ()), ((), (), ("cat",)))
        self.no_world((1, (), (), (("sees", ()),)), ((), ("sees",), ()))

    def test_a_name_is_one_thing(self):
        one = (("Ann",), (), ())
        for thing, wanted in ((0, True), (2, True), (3, False), (-1, False), (True, False), (False, False),
                              (None, False), ((0,), False), ((), False), ("0", False), ([0], False)):
            self.assertIs(is_world(one, (3, (("Ann", thing),), (), ())), wanted, thing)

    def test_the_things_of_a_kind_rise(self):
        one = ((), ("cat",), ())
        for things, wanted in (
            ((), True), ((0,), True), ((2,), True), ((0, 2), True), ((0, 1, 2), True), ((2, 0), False), ((0, 0), False),
            ((0, 1, 1), False), ((3,), False), ((-1, 0), False), ((True,), False), ((False, 1), False), ((0, True), False),
            ([0], False), (0, False), (None, False), (((0,),), False), (("0",), False), ((None,), False), (((0, 1),), False),
            ({0}, False), ("", False),
        ):
            self.assertIs(is_world(one, (3, (), (("cat", things),), ())), wanted, things)

    def test_the_pairs_of_a_doing_rise(self):
        one = ((), (), ("sees",))
        for pairs, wanted in (
            ((), True), (((0, 0),), True), (((0, 1), (1, 0)), True), (((0, 1), (0, 2), (2, 2)), True),
            (((1, 0), (0, 1)), False), (((0, 2), (0, 1)), False), (((0, 1), (0, 1)), False), (((0, 3),), False),
            (((3, 0),), False), (((-1, 0),), False), (((0, -1),), False), (((0,),), False), (((0, 1, 2),), False),
            (([0, 1],), False), ([(0, 1)], False), (((True, 0),), False), (((0, False),), False), ((0, 1), False),
            (None, False), ((None,), False), ((((0, 1),),), False), ((("0", "1"),), False), ("", False), (((),), False),
        ):
            self.assertIs(is_world(one, (3, (), (), (("sees", pairs),))), wanted, pairs)

    def test_what_is_no_vocabulary_has_no_worlds(self):
        for thing in ODD_THINGS + ODD_TEXTS + (((), ("cat",), ("cat",)), (("Bob", "Ann"), (), ()), ((), ())):
            self.no_world((1, (), (), ()), thing)
        self.no_world((1, (("Bob", 0), ("Ann", 0)), (), ()), (("Bob", "Ann"), (), ()))

    def test_anything(self):
        for thing in ODD_THINGS + ODD_TEXTS:
            self.no_world(thing)
            self.no_world(thing, ((), (), ()))
            self.no_world((thing, thing, thing, thing))
            self.no_world((1, thing, (), ()), (("Ann",), (), ()))
            self.no_world((1, (thing,), (), ()), (("Ann",), (), ()))
            self.no_world((1, (), (thing,), ()), ((), ("cat",), ()))
            self.no_world((1, (), (), (thing,)), ((), (), ("sees",)))
            self.no_world((1, (), (("cat", (thing, thing)),), ()), ((), ("cat",), ()))
            self.no_world((1, (), (), (("sees", (thing, thing)),)), ((), (), ("sees",)))


class AllWorlds(unittest.TestCase):
    def test_all_in_order(self):
        for vocabulary in SMALL_VOCABULARIES:
            for size in (1, 2, 3):
                if number(vocabulary, size) > 4096:
                    continue
                worlds = worlds_of(vocabulary, size)
                self.assertIsInstance(worlds, tuple)
                self.assertEqual(list(worlds), all_worlds(vocabulary, size), (vocabulary, size))
                self.assertEqual(len(worlds), how_many(vocabulary, size))
                for world in worlds:
                    self.assertIs(is_world(vocabulary, world), True)

    def test_written_out(self):
        self.assertEqual(worlds_of(((), ("cat",), ()), 3), tuple(
            (3, (), (("cat", row),), ()) for row in ((), (0,), (0, 1), (0, 1, 2), (0, 2), (1,), (1, 2), (2,))
        ))
        self.assertEqual(worlds_of((("Ann",), ("cat",), ()), 1), (
            (1, (("Ann", 0),), (("cat", ()),), ()), (1, (("Ann", 0),), (("cat", (0,)),), ()),
        ))
        self.assertEqual(worlds_of((("Ann", "Bob"), (), ()), 2), tuple(
            (2, (("Ann", one), ("Bob", other)), (), ()) for one in (0, 1) for other in (0, 1)
        ))
        self.assertEqual(worlds_of(((), (), ("sees",)), 1), (
            (1, (), (), (("sees", ()),)), (1, (), (), (("sees", ((0, 0),)),)),
        ))

    def test_just_4096(self):
        for vocabulary, size in (
            (((), ("cat",), ()), 12), (((), ("cat",), ("sees",)), 3), (((), ("ant", "cat", "dog"), ()), 4),
            (((), (), ("asks", "likes", "sees")), 2), ((("Ann", "Bob"), (), ()), 64), ((("Ann",), (), ()), 4096),
            (((), tuple("k" + sign for sign in "abcdefghijkl"), ()), 1), ((("A", "B", "C", "D"), ("cat",), ("sees",)), 2)
        ):
            worlds = worlds_of(vocabulary, size)
            self.assertEqual(len(worlds), number(vocabulary, size))
            self.assertLessEqual(len(worlds), 4096)
            self.assertTrue(all(one < other for one, other in zip(worlds, worlds[1:])))
            for world in worlds:
                self.assertIs(is_world(vocabulary, world), True)

    def test_great_sizes_of_names_alone(self):
        self.assertEqual(worlds_of((("Ann",), (), ()), 60), tuple((60, (("Ann", thing),), (), ()) for thing in range(60)))
        pairs = itertools.product(range(60), repeat=2)
        self.assertEqual(worlds_of((("Ann", "Bob"), (), ()), 60), tuple(
            (60, (("Ann", one), ("Bob", other)), (), ()) for one, other in pairs
        ))
        for size in (1, 60, 1000, 10 ** 12 - 1):
            self.assertEqual(worlds_of(((), (), ()), size), ((size, (), (), ()),))

    def test_how_many(self):
        for vocabulary in SMALL_VOCABULARIES + (FULL, (("A", "B", "C", "D", "E", "F"), (), ())):
            for size in (1, 2, 3, 5, 10, 60):
                self.assertEqual(how_many(vocabulary, size), number(vocabulary, size))
        most = (tuple("ABCDEF"), tuple("k" + sign for sign in "abcdef"), ("da", "db", "dc"))
        for size in (1, 2, 3, 12, 20, 60, 200):
            told = how_many(most, size)
            self.assertEqual(told, number(most, size))
            self.assertIs(type(told), int)
        self.assertEqual(how_many((("A", "B"), (), ()), 10 ** 12 - 1), (10 ** 12 - 1) ** 2)
        self.assertEqual(how_many(((), (), ()), 10 ** 12 - 1), 1)

    def test_how_many_up_to(self):
        for vocabulary in SMALL_VOCABULARIES + (FULL, (("A", "B", "C", "D", "E", "F"), (), ())):
            for size in (-1, 0, 1, 2, 3, 5, 10, 40):
                self.assertEqual(how_many_up_to(vocabulary, size), sum(number(vocabulary, one) for one in range(1, size + 1)))

    def test_there_is_one_thing_at_least(self):
        for vocabulary in (((), (), ()), ((), ("cat",), ()), FULL):
            self.assertEqual(worlds_of(vocabulary, 0), ())
            self.assertEqual(how_many(vocabulary, 0), 0)

    def test_just_above_4096_they_are_not_told(self):
        for vocabulary, size in ((((), ("cat",), ()), 13), ((("Ann",), (), ()), 4097), (((), (), ("sees",)), 4),
                                 (((), ("cat",), ()), 10 ** 12 - 1), (FULL, 60)):
            self.assertEqual(worlds_of(vocabulary, size), ())


if __name__ == "__main__":
    unittest.main()

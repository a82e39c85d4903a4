"""[14]: openers, boxes, to what a line is open, what a box told."""

import random
import unittest

from linecourt.lines import box_of, open_to, openers_at, told_by

FALSE = ("false",)
OPENERS = (("supposed",), ("any", "Zed"), ("called", "Zoe", 1))
OTHERS = (
    ("given",), ("again", 1), ("itself",), ("both", 1, 1), ("soif", 1), ("not", 1), ("contrary", 1), ("cases", 1, 1, 1),
    ("forany", 1), ("forsome", 1), ("sums", (), ()), ("by", (1,)), ("clearly",), ("earlier", "any", ()), ("nothing", 1),
)


def lines_of(text, chance=None):
    """Lines by their levels, an opener having a * behind: 0 1* 1 0."""
    told = []
    for at, word in enumerate(text.split(" ")):
        group = OPENERS if word.endswith("*") else OTHERS
        reason = chance.choice(group) if chance else group[at % len(group)]
        told.append((int(word.rstrip("*")), FALSE, reason))
    return tuple(told)


def is_opener(line):
    return line[2][0] in ("supposed", "any", "called")


def slow_box(lines, i):
    level = lines[i - 1][0]
    for k in range(i + 1, len(lines) + 1):
        if lines[k - 1][0] < level or (is_opener(lines[k - 1]) and lines[k - 1][0] == level):
            return (i, k - 1)
    return (i, len(lines))


def slow_openers(lines, k):
    boxes = [slow_box(lines, i) for i in range(1, len(lines) + 1) if is_opener(lines[i - 1])]
    return tuple(first for first, last in boxes if first <= k <= last)


def slow_open_to(lines, k):
    own = set(slow_openers(lines, k))
    return tuple(m for m in range(1, k) if set(slow_openers(lines, m)) <= own)


def slow_told_by(lines, i, k):
    if not 1 <= i <= len(lines) or not is_opener(lines[i - 1]):
        return None
    last = slow_box(lines, i)[1]
    done = (
        lines[i - 1][0] == lines[k - 1][0] + 1 and k > last and lines[last - 1][0] == lines[i - 1][0]
        and set(slow_openers(lines, i)) - {i} <= set(slow_openers(lines, k))
    )
    return last if done else None


def random_lines(chance, many, most):
    words = []
    ahead = 0
    for _ in range(many):
        if chance.random() < 0.45:
            ahead = min(most, chance.choice((ahead + 1, ahead + 1, chance.randrange(1, ahead + 2))))
            words.append(f"{ahead}*")
        else:
            ahead = chance.choice((ahead, ahead, chance.randrange(ahead + 1)))
            words.append(str(ahead))
    return lines_of(" ".join(words), chance)


class Boxes(unittest.TestCase):
    def test_box_of(self):
        for text, i, wanted in (
            ("0 1* 1 1 0", 2, (2, 4)), ("0 1* 0", 2, (2, 2)), ("1* 1 1*", 1, (1, 2)), ("1* 1 1*", 3, (3, 3)),
            ("1* 1* 0", 1, (1, 1)), ("1* 2* 2 1 0", 1, (1, 4)), ("1* 2* 2 1 0", 2, (2, 3)), ("1* 2* 2* 1 0", 2, (2, 2)),
            ("1* 2* 2* 1 0", 3, (3, 3)), ("1* 2* 2* 1 0", 1, (1, 4)), ("1* 2* 3* 3 1* 1 0", 2, (2, 4)),
            ("1* 2* 3* 3 1* 1 0", 1, (1, 4)), ("1* 2* 3* 3 1* 1 0", 5, (5, 6)), ("1* 2* 3* 2 3* 0", 2, (2, 5)),
            ("0 0 1* 1 1", 3, (3, 5)), ("1*", 1, (1, 1)), ("1* 2* 3* 0", 1, (1, 3)), ("1* 2* 1 1 1 0", 1, (1, 5)),
        ):
            self.assertEqual(box_of(lines_of(text), i), wanted, (text, i))

    def test_each_sort_of_opener(self):
        for one in OPENERS:
            for other in OPENERS:
                lines = ((0, FALSE, ("given",)), (1, FALSE, one), (1, FALSE, ("again", 1)), (1, FALSE, other), (0, FALSE, ("itself",)))
                self.assertEqual(box_of(lines, 2), (2, 3))
                self.assertEqual(box_of(lines, 4), (4, 4))
                self.assertEqual([openers_at(lines, k) for k in range(1, 6)], [(), (2,), (2,), (4,), ()])
                self.assertEqual([open_to(lines, k) for k in range(1, 6)], [(), (1,), (1, 2), (1,), (1,)])
                self.assertEqual([told_by(lines, i, 5) for i in range(1, 6)], [None, 3, None, 4, None])

    def test_other_reasons_open_nothing(self):
        for reason in OTHERS:
            lines = ((1, FALSE, ("supposed",)), (1, FALSE, reason), (0, FALSE, reason))
            self.assertEqual(box_of(lines, 1), (1, 2))
            self.assertEqual(openers_at(lines, 2), (1,))
            self.assertEqual(openers_at(lines, 3), ())
            self.assertIsNone(told_by(lines, 2, 3))
            self.assertEqual(told_by(lines, 1, 3), 2)


class OpenersAndOpenLines(unittest.TestCase):
    def test_openers_at(self):
        for text, wanted in (
            ("0 1* 1 2* 2 1 0", [(), (2,), (2,), (2, 4), (2, 4), (2,), ()]),
            ("1* 1* 1 0", [(1,), (2,), (2,), ()]),
            ("1* 2* 3* 2* 2 1* 0", [(1,), (1, 2), (1, 2, 3), (1, 4), (1, 4), (6,), ()]),
            ("1* 2* 1 2* 0", [(1,), (1, 2), (1,), (1, 4), ()]),
            ("0", [()]),
            ("1* 2* 3* 4* 5* 6* 7* 8* 8 0", [tuple(range(1, k + 1)) for k in range(1, 9)] + [tuple(range(1, 9)), ()]),
        ):
            lines = lines_of(text)
            told = [openers_at(lines, k) for k in range(1, len(lines) + 1)]
            self.assertEqual(told, wanted, text)
            self.assertTrue(all(isinstance(row, tuple) for row in told))

    def test_open_to(self):
        for text, wanted in (
            ("0 1* 1 2* 2 1 0", [(), (1,), (1, 2), (1, 2, 3), (1, 2, 3, 4), (1, 2, 3), (1,)]),
            ("1* 1* 1 0", [(), (), (2,), ()]),
            ("0 0 0", [(), (1,), (1, 2)]),
            ("0 1* 0 1* 1 0", [(), (1,), (1,), (1, 3), (1, 3, 4), (1, 3)]),
            ("1* 2* 3* 2* 2 1* 0", [(), (1,), (1, 2), (1,), (1, 4), (), ()]),
        ):
            lines = lines_of(text)
            told = [open_to(lines, k) for k in range(1, len(lines) + 1)]
            self.assertEqual(told, wanted, text)
            self.assertTrue(all(isinstance(row, tuple) for row in told))


class WhatABoxTold(unittest.TestCase):
    def test_done(self):
        for text, i, k, wanted in (
            ("1* 1 0", 1, 3, 2), ("1* 0", 1, 2, 1), ("1* 1 0 0 0", 1, 5, 2), ("1* 1 1* 1 0", 1, 5, 2), ("1* 1 1* 1 0", 3, 5, 4),
            ("1* 2* 2 1 0", 2, 4, 3), ("1* 2* 2 1 1 0", 2, 5, 3), ("1* 2* 2 1 0", 1, 5, 4), ("1* 2* 2* 1 0", 2, 4, 2),
            ("1* 1 0 1* 1 0", 1, 6, 2), ("1* 1 0 1* 1 0", 4, 6, 5),
        ):
            self.assertEqual(told_by(lines_of(text), i, k), wanted, (text, i, k))

    def test_not_done(self):
        for text, i, k, why in (
            ("1* 1 0", 1, 1, "the line is the opener"), ("1* 1 0", 1, 2, "the line is in the box"),
            ("0 1* 1 0", 2, 1, "the line stands ahead"), ("1* 2* 2 0", 1, 4, "the last line has a greater level"),
            ("1* 2* 2 0", 2, 4, "the opener's level is two more"), ("1* 2* 2 1* 1 0", 2, 5, "not in the box around"),
            ("1* 2* 2 0 1* 1 0", 2, 6, "not in the box around"), ("1* 1 1* 1 0", 1, 4, "the level is the same"),
            ("1* 1 1* 1 0", 1, 3, "the level is the same"), ("1* 2* 2 1 0", 2, 5, "the opener's level is two more"),
            ("1* 2* 2 1* 0", 2, 4, "an opener of the level, behind"),
        ):
            self.assertIsNone(told_by(lines_of(text), i, k), (text, i, k, why))

    def test_of_what_is_no_opener(self):
        lines = lines_of("0 1* 1 0 0")
        for i in (1, 3, 4, 5, 0, -1, 6, 60):
            for k in range(1, 6):
                self.assertIsNone(told_by(lines, i, k), (i, k))


class ByTheWords(unittest.TestCase):
    def compare(self, lines):
        for k in range(1, len(lines) + 1):
            self.assertEqual(openers_at(lines, k), slow_openers(lines, k))
            self.assertEqual(open_to(lines, k), slow_open_to(lines, k))
            if is_opener(lines[k - 1]):
                self.assertEqual(box_of(lines, k), slow_box(lines, k))
                self.assertEqual(openers_at(lines, k)[-1], k)
            for i in range(1, len(lines) + 1):
                self.assertEqual(told_by(lines, i, k), slow_told_by(lines, i, k), (lines, i, k))

    def test_short(self):
        chance = random.Random(1)
        for _ in range(150):
            self.compare(random_lines(chance, chance.randrange(1, 12), 3))

    def test_sixty_lines_and_eight_levels(self):
        chance = random.Random(2)
        for _ in range(4):
            lines = random_lines(chance, 60, 8)
            self.compare(lines)
        self.compare(lines_of(" ".join([f"{k}*" for k in range(1, 9)] + ["8"] * 30 + [str(k) for k in range(7, -1, -1)] + ["0"] * 14)))

    def test_nothing_is_changed(self):
        lines = lines_of("0 1* 1 2* 2 1 0")
        before = repr(lines)
        self.compare(lines)
        self.assertEqual(repr(lines), before)


if __name__ == "__main__":
    unittest.main()

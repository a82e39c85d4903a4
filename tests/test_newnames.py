"""Names that stand nowhere yet."""

import unittest

from linecourt.newnames import Namer, name_at, new_name
from linecourt.words import is_name


class NewNames(unittest.TestCase):
    def test_all_unlike(self):
        names = [name_at(place) for place in range(40000)]
        self.assertEqual(len(set(names)), len(names))
        self.assertTrue(all(is_name(name) for name in names))
        self.assertEqual([len(name) for name in names], sorted(len(name) for name in names))
        # All of one letter, of two and of three.
        self.assertEqual([sum(len(name) == many for name in names) for many in (1, 2, 3)], [26, 26 ** 2, 26 ** 3])

    def test_none_of_those_taken(self):
        taken = ("A", "C", "D", "Aa", "Zed")
        namer = Namer(taken)
        told = [new_name(namer) for _ in range(2000)]
        self.assertEqual(len(set(told)), len(told))
        self.assertEqual(set(told) & set(taken), set())
        self.assertEqual(told[:3], ["B", "E", "F"])


if __name__ == "__main__":
    unittest.main()

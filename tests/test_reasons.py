"""The numbers of lines that reasons name, and reasons whose lines have new numbers."""

import unittest

from linecourt.reasons import moved, numbers_in

NUMBERS = (2, 5, 6)


class Numbers(unittest.TestCase):
    def test_each_sort(self):
        for reason, numbers, wanted in (
            (("given",), [], ("given",)), (("any", "Zed"), [], ("any", "Zed")), (("called", "Zed", 2), [2], ("called", "Zed", 5)),
            (("at", 3, "Ann"), [3], ("at", 6, "Ann")), (("both", 2, 1), [2, 1], ("both", 5, 2)),
            (("cases", 1, 2, 3), [1, 2, 3], ("cases", 2, 5, 6)), (("sums", (3, 1), (1, 2)), [3, 1], ("sums", (6, 2), (1, 2))),
            (("sums", (), ()), [], ("sums", (), ())), (("earlier", "name", (1, 1)), [1, 1], ("earlier", "name", (2, 2))),
            (("by", (2, 3)), [2, 3], ("by", (5, 6))), (("clearly",), [], ("clearly",)),
        ):
            self.assertEqual(numbers_in(reason), numbers)
            self.assertEqual(moved(reason, NUMBERS), wanted)


if __name__ == "__main__":
    unittest.main()

"""[9]: forms written."""

import unittest

from linecourt.formtexts import show_form
from tests.samples import ONE, OTHER, TOM


class Written(unittest.TestCase):
    def check(self, form, wanted):
        self.assertEqual(show_form(form), wanted)

    def test_each_word(self):
        ann = ("is", "Ann", "dog")
        for form, wanted in (
            (TOM, "Tom is a cat"), (("is", "x1", "cat"), "x1 is a cat"), (("does", "sees", "Tom", "y"), "Tom sees y"),
            (("does", "sees", "y", "Tom"), "y sees Tom"), (("same", "Tom", "Ann"), "Tom is Ann"),
            (("same", "x", "Ann"), "x is Ann"), (("false",), "absurd"), (("not", TOM), "not ( Tom is a cat )"),
            (("and", TOM, ann), "( Tom is a cat ) and ( Ann is a dog )"),
            (("or", TOM, ann), "( Tom is a cat ) or ( Ann is a dog )"),
            (("if", TOM, ann), "if ( Tom is a cat ) then ( Ann is a dog )"),
            (("every", "x", ("is", "x", "cat")), "every x ( x is a cat )"),
            (("some", "z9", TOM), "some z9 ( Tom is a cat )"),
            (("least", ONE, OTHER), "cat + 2 dog >= 3"),
        ):
            self.check(form, wanted)

    def test_sums(self):
        for total, wanted in (
            (((), 0), "0"), (((), 1), "1"), (((), 10), "10"), (((), 999999999999), "999999999999"),
            (((("cat", 1),), 0), "cat"), (((("cat", 1),), 1), "cat + 1"), (((("cat", 2),), 0), "2 cat"),
            (((("cat", 1), ("dog", 2)), 5), "cat + 2 dog + 5"), (((("cat", 10), ("dog", 1)), 0), "10 cat + dog"),
            (((("ant", 1), ("bee", 1), ("cat", 999999999999)), 999999999999), "ant + bee + 999999999999 cat + 999999999999"),
        ):
            self.check(("least", total, ((), 0)), wanted + " >= 0")
            self.check(("least", ((), 7), total), "7 >= " + wanted)

    def test_within_one_another(self):
        self.check(
            ("every", "x", ("if", ("and", ("is", "x", "cat"), ("not", ("same", "x", "Tom"))), ("some", "y", ("or",
             ("does", "sees", "x", "y"), ("false",))))),
            "every x ( if ( ( x is a cat ) and ( not ( x is Tom ) ) ) then ( some y ( ( x sees y ) or ( absurd ) ) ) )",
        )
        form, text = TOM, "Tom is a cat"
        for _ in range(11):
            form, text = ("not", form), "not ( " + text + " )"
        self.check(form, text)


if __name__ == "__main__":
    unittest.main()

"""[2]: the refusals."""

import unittest

from linecourt import errors

TEXT_NAMES = ("NoSentence", "NoJoin", "NoOrder", "NoTurn", "Twice")


def made():
    """Each refusal by its name, with what it was made with by the names of its fields."""
    told = {name: (getattr(errors, name)("why not"), {}) for name in TEXT_NAMES}
    told["TwoReadings"] = (
        errors.TwoReadings(("false",), ("not", ("false",))), {"one": ("false",), "other": ("not", ("false",))}
    )
    told["NoText"] = (errors.NoText(0), {"row": 0})
    told["Lacks"] = (errors.Lacks(60), {"line": 60})
    told["TooGreat"] = (errors.TooGreat(201, 200), {"many": 201, "most": 200})
    return told


class Refusals(unittest.TestCase):
    def test_each_is_of_its_own_class_alone(self):
        refusals = made()
        self.assertEqual(len(refusals), 9)
        for name, (refusal, _) in refusals.items():
            self.assertIsInstance(refusal, errors.CourtError)
            self.assertIsInstance(refusal, ValueError)
            for other in refusals:
                self.assertEqual(isinstance(refusal, getattr(errors, other)), name == other, (name, other))

    def test_fields_are_what_it_was_made_with(self):
        for name, (refusal, fields) in made().items():
            for field, worth in fields.items():
                self.assertEqual(getattr(refusal, field), worth, (name, field))

    def test_fields_of_two_objects_are_their_own(self):
        one, other = errors.TooGreat(1, 2), errors.TooGreat(3, 4)
        self.assertEqual((one.many, one.most, other.many, other.most), (1, 2, 3, 4))

    def test_the_text_is_kept(self):
        for name in TEXT_NAMES:
            self.assertEqual(str(getattr(errors, name)("why not")), "why not")

    def test_each_can_be_raised_and_caught_by_name(self):
        for name, (refusal, _) in made().items():
            with self.assertRaises(getattr(errors, name)):
                raise refusal
            with self.assertRaises(errors.CourtError):
                raise refusal

    def test_the_class_over_all(self):
        self.assertTrue(issubclass(errors.CourtError, ValueError))
        for name in made():
            self.assertNotIsInstance(errors.CourtError("x"), getattr(errors, name))


if __name__ == "__main__":
    unittest.main()

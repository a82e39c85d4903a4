"""[37], with [27], [29], [35]: a Court, which keeps earlier arguments."""

import random
import unittest

from linecourt.argumenttexts import read_argument, show_argument
from linecourt.checker import lets_by
from linecourt.court import court_word
from linecourt.desk import Court
from linecourt.errors import Lacks, NoText, TooGreat, Twice
from linecourt.filling import written_out
from tests.arguing import GIVEN_SETS, MEANINGS, random_argument
from tests.making import SMALL, clearly, given
from tests.samples import ODD_THINGS
from tests.test_filling import with_gaps

CAT, DOG = ("is", "Ann", "cat"), ("is", "Ann", "dog")
HEAD = ("names Ann Bob", "kinds cat dog", "doings sees")
PETS = ("meaning pet x7 : x7 is a cat or x7 is a dog",)
BEYOND = "beyond the bound"


def text(*rows, head=HEAD):
    """The text of an argument, its lines without their numbers."""
    return "\n".join([*head, *(f"{at} {row}" for at, row in enumerate(rows, 1))])


EITHER = text("given : Ann is a cat", "clearly : Ann is a cat or Bob is a cat")
SWAPPED = text("given : Ann is a cat", "given : Bob is a dog", "by 1 2 : Bob is a dog and Ann is a cat")
SMALL_ONE = text("given : Ann is a dog", "again 1 : Ann is a dog")
UNREAD = text("given : Ann is a cow")
LACKING = text("given : Ann is a cat", "clearly : Ann is a dog")
NOT_RIGHT = text("given : Ann is a cat", "again 1 : Ann is a cat", "left 1 : Ann is a dog", "clearly : Ann is a dog")
# Fifteen names and an every within an every: 1, 16, then 241 forms, and N is N of each of the thirteen.
GREAT = text(
    "given : every x ( every y ( x sees y ) )", *[f"{'| ' * at}any N{sign} : N{sign} is N{sign}" for at, sign in enumerate("abcdefghijklm", 1)],
    f"{'| ' * 13}clearly : Ann is a cat", "clearly : not absurd")
FROM_EITHER = text("given : Ann is a cat", "earlier either 1 : Ann is a cat or Bob is a cat")


def kept_court(*pairs):
    court = Court()
    for name, told in pairs:
        court.keep(name, told)
    return court


class Asking(unittest.TestCase):
    def refused(self, refusal, ask, *things, **fields):
        """What is asked for is refused, with just this class and these fields."""
        with self.assertRaises(refusal) as caught:
            ask(*things)
        self.assertIs(type(caught.exception), refusal)
        for field, worth in fields.items():
            self.assertEqual(getattr(caught.exception, field), worth)

    def let_by(self, court, told):
        word = court.word(told)
        self.assertEqual(word[0], "let by", word)
        return word[1]


class Keeping(Asking):
    def test_none_is_told(self):
        court = Court()
        for name, told in (("either", EITHER), ("b", SWAPPED), ("a", SMALL_ONE)):
            self.assertIsNone(court.keep(name, told))

    def test_the_names_in_order(self):
        court = Court()
        self.assertEqual(court.kept(), ())
        names = ("one", "z", "a", "is", "eightsig", "x")
        for many, name in enumerate(names, 1):
            court.keep(name, SMALL_ONE)
            self.assertEqual(court.kept(), names[:many])
        self.assertIs(type(court.kept()), tuple)

    def test_what_is_kept_is_what_is_written_out(self):
        # As it was handed in, it is let by in no case.
        argument = read_argument(EITHER)
        self.assertFalse(lets_by(argument))
        leaning = read_argument(FROM_EITHER)
        self.assertEqual(court_word(leaning, (("either", argument),))[:2], ("refused", 2))
        court = kept_court(("either", EITHER))
        self.assertEqual(self.let_by(court, FROM_EITHER), leaning)

    def test_one_leans_on_those_kept_ahead_of_it(self):
        court = kept_court(("either", EITHER), ("again", FROM_EITHER))
        lean = text("given : Ann is a cat", "earlier again 1 : Ann is a cat or Bob is a cat", "by 2 : Ann is a cat or Bob is a cat")
        court.keep("third", lean)
        self.assertEqual(court.kept(), ("either", "again", "third"))
        self.let_by(court, lean.replace("again 1", "third 1"))
        # Not on itself, and not on one that is kept later.
        self.refused(Lacks, Court().keep, "either", FROM_EITHER, line=2)
        self.refused(Lacks, kept_court(("swapped", SWAPPED)).keep, "again", FROM_EITHER, line=2)

    def test_two_courts(self):
        one, other = Court(), Court()
        one.keep("either", EITHER)
        self.assertEqual((one.kept(), other.kept()), (("either",), ()))
        self.assertEqual(self.let_by(one, FROM_EITHER), read_argument(FROM_EITHER))
        self.assertEqual(other.word(FROM_EITHER), ("refused", 2, BEYOND))
        other.keep("either", SMALL_ONE)
        self.assertEqual(other.word(FROM_EITHER), ("refused", 2, BEYOND))

    def test_one_of_another_vocabulary_or_other_meanings(self):
        court = kept_court(("either", EITHER))
        wide = ("names Ann Bob", "kinds cat cow dog", "doings sees")
        rows = ("given : Ann is a cat", "earlier either 1 : Ann is a cat or Bob is a cat")
        self.let_by(court, text(*rows))
        self.assertEqual(court.word(text(*rows, head=wide))[:2], ("refused", 2))
        self.assertEqual(court.word(text(*rows, head=HEAD + PETS))[:2], ("refused", 2))
        court.keep("wide", text("given : Ann is a cat", "clearly : Ann is a cat or Bob is a cat", head=HEAD + PETS))
        self.let_by(court, text(rows[0], rows[1].replace("either", "wide"), head=HEAD + PETS))


class Refused(Asking):
    def unchanged(self, refusal, name, told, **fields):
        """Refused, and the court is as it was."""
        court = kept_court(("either", EITHER), ("swapped", SWAPPED))
        self.refused(refusal, court.keep, name, told, **fields)
        self.assertEqual(court.kept(), ("either", "swapped"))
        self.let_by(court, FROM_EITHER)
        self.assertEqual(court.word(text("given : Ann is a cat", f"earlier {name} 1 : Ann is a dog"))[:2], ("refused", 2))
        self.assertIsNone(court.keep("new", SMALL_ONE))
        self.assertEqual(court.kept(), ("either", "swapped", "new"))
        # Once more the same: what was refused has left nothing behind.
        self.refused(refusal, court.keep, name, told, **fields)
        self.assertEqual(court.kept(), ("either", "swapped", "new"))

    def test_no_text(self):
        self.unchanged(NoText, "more", UNREAD, row=3)
        self.unchanged(NoText, "more", "", row=0)
        self.unchanged(NoText, "more", text(), row=2)
        self.unchanged(NoText, "more", text("given : absurd", "again 4 : absurd", "given : absurd"), row=5)

    def test_what_is_no_text(self):
        for thing in ODD_THINGS:
            self.refused(NoText, Court().keep, "more", thing, row=0)
            self.refused(NoText, Court().word, thing, row=0)
            self.refused(NoText, Court().written, thing, row=0)

    def test_twice(self):
        self.unchanged(Twice, "either", EITHER)
        self.unchanged(Twice, "either", SMALL_ONE)
        self.unchanged(Twice, "swapped", EITHER)

    def test_lacks(self):
        self.unchanged(Lacks, "more", LACKING, line=2)
        self.unchanged(Lacks, "more", NOT_RIGHT, line=3)
        self.unchanged(Lacks, "more", text("given : Ann is a cat", "earlier none 1 : Ann is a cat"), line=2)

    def test_too_great(self):
        self.unchanged(TooGreat, "more", GREAT, many=254, most=200)

    def test_the_first_due_goes_first(self):
        # A text that can't be read, by a name that is kept.
        self.unchanged(NoText, "either", UNREAD, row=3)
        self.unchanged(NoText, "either", None, row=0)
        # One that would be refused, by a name that is kept.
        self.unchanged(Twice, "either", LACKING)
        self.unchanged(Twice, "either", GREAT)
        # Both a line that lacks and one at which too much is known: the first of them.
        rows = [row.partition(" ")[2] for row in GREAT.split("\n")[3:]]
        self.unchanged(TooGreat, "more", text(*rows[:15], "again 1 : absurd"), many=254)
        self.unchanged(Lacks, "more", text(rows[0], "again 1 : absurd", *rows[1:]), line=2)

    def test_a_name_that_was_refused_may_be_kept(self):
        court = Court()
        for told, refusal in ((UNREAD, NoText), (LACKING, Lacks), (GREAT, TooGreat)):
            self.refused(refusal, court.keep, "either", told)
        court.keep("either", EITHER)
        self.assertEqual(court.kept(), ("either",))
        self.let_by(court, FROM_EITHER)


class Words(Asking):
    def test_let_by(self):
        self.assertEqual(Court().word(SMALL_ONE), ("let by", read_argument(SMALL_ONE)))
        self.assertEqual(Court().word(SWAPPED)[1][2][2], (0, ("and", ("is", "Bob", "dog"), CAT), ("both", 2, 1)))

    def test_refused(self):
        world = (1, (("Ann", 0), ("Bob", 0)), (("cat", (0,)), ("dog", ())), (("sees", ()),))
        self.assertEqual(Court().word(LACKING), ("refused", 2, world))
        self.assertEqual(Court().word(NOT_RIGHT), ("refused", 3, world))
        self.assertEqual(Court().word(text("clearly : Ann is a cat or Ann is not a cat")), ("refused", 1, BEYOND))
        self.assertEqual(Court().word(GREAT), ("refused", 15, BEYOND))

    def test_no_text(self):
        self.refused(NoText, Court().word, UNREAD, row=3)
        self.refused(NoText, Court().word, text(), row=2)

    def test_it_keeps_nothing(self):
        court = kept_court(("either", EITHER))
        for told in (SMALL_ONE, FROM_EITHER, LACKING, GREAT):
            self.assertEqual(court.word(told), court.word(told))
            self.assertEqual(court.kept(), ("either",))


class Written(Asking):
    def test_the_text(self):
        self.assertEqual(Court().written(SMALL_ONE), SMALL_ONE)
        self.assertEqual(Court().written(SWAPPED), text(
            "given : Ann is a cat", "given : Bob is a dog", "both 2 1 : ( Bob is a dog ) and ( Ann is a cat )"))
        self.assertEqual(Court().written(EITHER), text("given : Ann is a cat", "orleft 1 : ( Ann is a cat ) or ( Bob is a cat )"))

    def test_it_leans_on_what_is_kept(self):
        court = kept_court(("either", EITHER))
        self.assertEqual(court.written(FROM_EITHER), text(
            "given : Ann is a cat", "earlier either 1 : ( Ann is a cat ) or ( Bob is a cat )"))
        self.refused(Lacks, Court().written, FROM_EITHER, line=2)

    def test_refused(self):
        self.refused(NoText, Court().written, UNREAD, row=3)
        self.refused(Lacks, Court().written, LACKING, line=2)
        self.refused(Lacks, Court().written, NOT_RIGHT, line=3)
        self.refused(TooGreat, Court().written, GREAT, many=254, most=200)

    def test_it_keeps_nothing(self):
        court = kept_court(("either", EITHER))
        court.written(SMALL_ONE)
        self.refused(Lacks, court.written, LACKING)
        self.assertEqual(court.kept(), ("either",))

    def test_read_again_and_let_by(self):
        court = kept_court(("either", EITHER))
        for told in (EITHER, SWAPPED, SMALL_ONE, FROM_EITHER):
            new = court.written(told)
            self.assertEqual(court.written(new), new)
            self.assertEqual(self.let_by(court, new), read_argument(new))
            self.assertEqual(self.let_by(court, told), read_argument(new))


class ByChance(Asking):
    def test_as_the_rest_of_the_program_tells(self):
        chance = random.Random(37)
        seen = {}
        for _ in range(25):
            court, earlier = Court(), ()
            meanings, givens = chance.choice(((), MEANINGS)), chance.choice(GIVEN_SETS)
            for name in ("one", "two", "three", "four"):
                argument = random_argument(chance, 12, meanings, earlier, givens)
                if chance.random() < 0.5:
                    argument = with_gaps(chance, argument)
                if chance.random() < 0.2:
                    argument = (SMALL, meanings, (given(CAT), clearly(0, DOG)))
                self.look(court, earlier, name, argument, seen)
                if name in court.kept():
                    earlier += ((name, written_out(argument, earlier)[0]),)
                self.assertEqual(court.kept(), tuple(name for name, _ in earlier))
        self.assertGreater(min(seen.get(key, 0) for key in ("let by", "refused", "earlier")), 5, seen)

    def look(self, court, earlier, name, argument, seen):
        told = show_argument(argument)
        word = court.word(told)
        self.assertEqual(word, court_word(argument, earlier))
        seen[word[0]] = seen.get(word[0], 0) + 1
        if word[0] == "refused":
            self.refused((Lacks, TooGreat)[word[2] == BEYOND and self.is_great(argument, earlier)], court.keep, name, told)
            return
        seen["earlier"] = seen.get("earlier", 0) + any(line[2][0] == "earlier" for line in argument[2])
        self.assertEqual(read_argument(court.written(told)), word[1])
        self.assertTrue(lets_by(read_argument(court.written(told)), earlier))
        court.keep(name, told)
        self.refused(Twice, court.keep, name, told)

    def is_great(self, argument, earlier):
        try:
            written_out(argument, earlier)
        except TooGreat:
            return True
        except Lacks:
            return False


if __name__ == "__main__":
    unittest.main()

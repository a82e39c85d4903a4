"""[36]: arguments written as rows, and read; and NoText."""

import random
import re
import unittest

from linecourt.arguments import is_argument
from linecourt.argumenttexts import read_argument, show_argument
from linecourt.checker import lets_by
from linecourt.errors import CourtError, NoText
from linecourt.filling import written_out
from linecourt.sentences import read_sentence
from tests.arguing import MEANINGS, random_argument
from tests.making import FALSE, SMALL, clearly, given, supposed, total
from tests.samples import ODD_THINGS, deep_form, wide_form
from tests.test_filling import with_gaps

CAT, DOG, BOB = ("is", "Ann", "cat"), ("is", "Ann", "dog"), ("is", "Bob", "cat")
HEAD = ("names Ann Bob", "kinds cat dog", "doings sees")
PETS = ("meaning pet x7 : ( x7 is a cat ) or ( x7 is a dog )", "meaning seer y7 : some z7 ( ( y7 sees z7 ) and ( z7 is a pet ) )")
EXAMPLE = (
    *HEAD, PETS[0], "1 given : Ann is a cat", "2 | supposed : Bob is a dog", "3 | again 1 : Ann is a cat",
    "4 soif 2 : if ( Bob is a dog ) then ( Ann is a cat )")
# Numbers, names and the like that belong to each word, as signs: k a number, N a name.
PARTS = {
    "": "given supposed itself clearly", "N": "any", "Nk": "called", "kk": "both then absurd put apart", "kkk": "cases two", "kN": "at such",
    "k": "again left right orleft orright nothing soif not contrary forany forsome meaning asmany one someof none nomore cover turned",
}
OPENERS = ("supposed", "any", "called")


def text(*rows):
    return "\n".join(rows)


def with_row(at, row, rows=EXAMPLE):
    """The rows with another one at a place."""
    return text(*rows[:at], row, *rows[at + 1:])


def argument(*lines, meanings=(), vocabulary=SMALL):
    return (vocabulary, meanings, lines)


def slow_reason(word, rest):
    """The reason written so, by patterns; None where there is none."""
    number, name = "(?:[1-9][0-9]*)", "[A-Z][a-z]{0,7}"
    if word == "sums" and re.fullmatch(f"(?:{number} )*times(?: (?:0|{number}))*", rest):
        ks, times = (tuple(int(piece) for piece in side.split()) for side in rest.split("times"))
        return ("sums", ks, times) if len(ks) == len(times) else None
    if word == "by" and re.fullmatch(f"{number}(?: {number}){{0,2}}", rest):
        return ("by", tuple(int(piece) for piece in rest.split()))
    if word == "earlier" and re.fullmatch(f"[a-z]{{1,8}}(?: {number})*", rest):
        return ("earlier", rest.split()[0], tuple(int(piece) for piece in rest.split()[1:]))
    for signs, words in PARTS.items():
        pattern = " ".join(number if sign == "k" else name for sign in signs)
        if word in words.split() and re.fullmatch(pattern, rest):
            return (word, *(int(piece) if piece.isdigit() else piece for piece in rest.split()))
    return None


def slow_form(vocabulary, names, kinds, sentence):
    names, kinds = (tuple(sorted({*one, *more})) for one, more in zip(vocabulary, (names, kinds)))
    try:
        return read_sentence((names, kinds, vocabulary[2]), sentence)
    except CourtError:
        return None


def slow_line(so_far, row):
    """The line that a row tells behind others; None where it tells none."""
    vocabulary, meanings, lines = so_far
    told = re.fullmatch(r"([1-9][0-9]*)((?: \|)*) ([a-z]+)((?: [^ :]+)*) :((?: [^ ]+)*)", " ".join(row.split()))
    if not told or told[1] != str(len(lines) + 1):
        return None
    level, reason = told[2].count("|"), slow_reason(told[3], told[4].strip())
    if reason is None:
        return None
    # The openers around are those at each lower level that were the last ones there, none of a lesser level behind them.
    names, least = [], level + (reason[0] not in OPENERS)
    for above, _, other in [*lines, (level, FALSE, reason)][::-1]:
        if other[0] in OPENERS and (above < least or other is reason):
            names += other[1:2]
        least = min(least, above + (other[0] not in OPENERS))
    form = slow_form(vocabulary, names, [meaning[0] for meaning in meanings], told[5])
    return form and (level, form, reason)


def slow_meaning(so_far, row):
    vocabulary, meanings, _ = so_far
    told = re.fullmatch(r"meaning ([a-z]+) ([u-z][0-9]?) :((?: [^ ]+)*)", " ".join(row.split()))
    if not told:
        return None
    deep = 0
    for word in told[3].split():
        deep += (word == "(") - (word == ")")
        if deep < 0:
            return None
    form = slow_form(vocabulary, (), [meaning[0] for meaning in meanings], f"every {told[2]} ( {told[3]} )")
    return form and (told[1], told[2], form[2])


def slow_rows(rows):
    """What rows tell, whether it fits or not; None where a row is of no such form."""
    vocabulary, meanings, lines = [(), (), ()], (), ()
    for at, row in enumerate(rows):
        so_far = (tuple(vocabulary), meanings, lines)
        if at < 3:
            if row.split()[:1] != [("names", "kinds", "doings")[at]]:
                return None
            vocabulary[at] = tuple(row.split()[1:])
        elif row.split()[:1] == ["meaning"] and not lines:
            meanings += (slow_meaning(so_far, row),)
        else:
            lines += (slow_line(so_far, row),)
        if None in meanings + lines:
            return None
    return (tuple(vocabulary), meanings, lines)


def nearer(reason, last):
    """A reason, numbers of lines that are too great put down to the greatest that there is."""
    if reason[:1] == ("sums",):
        return ("sums", nearer(reason[1], last), reason[2])
    pieces = [nearer(piece, last) if isinstance(piece, tuple) else piece for piece in reason]
    return tuple(min(piece, last) if isinstance(piece, int) else piece for piece in pieces)


def may_be_ahead(rows):
    """Whether rows may be ahead of others, all together being an argument."""
    told = slow_rows(rows)
    if told is None:
        return False
    lines = tuple((level, form, nearer(reason, len(told[2]) + 1)) for level, form, reason in told[2])
    return is_argument((*told[:2], (*lines, clearly(0, FALSE))))


def slow_read(told):
    """The argument, or the number of the row that is broken."""
    rows = told.split("\n")
    for at in range(len(rows)):
        if not may_be_ahead(rows[:at + 1]):
            return at
    whole = slow_rows(rows)
    return whole if is_argument(whole) else len(rows) - 1


def read_or_row(told):
    try:
        return read_argument(told)
    except NoText as refusal:
        return refusal.row


class Asking(unittest.TestCase):
    def row(self, told, row):
        """The text is refused for this row."""
        with self.assertRaises(NoText) as caught:
            read_argument(told)
        self.assertEqual(caught.exception.row, row, told)
        self.assertIs(type(caught.exception.row), int)

    def back(self, whole):
        """What is written is read to the argument again; the text is told."""
        self.assertTrue(is_argument(whole), whole)
        told = show_argument(whole)
        self.assertIs(type(told), str)
        self.assertEqual(read_argument(told), whole)
        return told

    def read(self, *rows):
        told = read_argument(text(*rows))
        self.assertTrue(is_argument(told))
        return told


class Shown(Asking):
    def test_row_by_row(self):
        whole = argument(
            given(CAT), supposed(1, ("is", "Bob", "dog")), (1, CAT, ("again", 1)), (0, ("if", ("is", "Bob", "dog"), CAT), ("soif", 2)), meanings=MEANINGS[:1])
        self.assertEqual(self.back(whole), text(*EXAMPLE))

    def test_the_least_argument(self):
        self.assertEqual(self.back((((), (), ()), (), (given(FALSE),))), "names\nkinds\ndoings\n1 given : absurd")

    def test_rows_of_one_word_and_of_many(self):
        vocabulary = (("A", "B", "Cc", "Dd", "Ee", "Ff"), ("ant",), ("bites", "sees", "ties"))
        self.assertEqual(
            self.back((vocabulary, (), (given(FALSE),))), "names A B Cc Dd Ee Ff\nkinds ant\ndoings bites sees ties\n1 given : absurd")
        self.assertEqual(self.back((((), ("ant",), ()), (), (given(FALSE),))), "names\nkinds ant\ndoings\n1 given : absurd")

    def test_meanings(self):
        self.assertEqual(self.back(argument(given(("is", "Ann", "wise")), meanings=MEANINGS)), text(
            *HEAD, *PETS, "meaning wise y8 : if ( y8 is a pet ) then ( ( y8 is a seer ) and ( Bob is a pet ) )", "1 given : Ann is a wise"))

    def test_each_reason(self):
        whole = argument(
            given(FALSE), supposed(1, FALSE), (2, FALSE, ("any", "Yon")), (2, FALSE, ("called", "Zed", 12)), *((0, FALSE, reason) for reason in (
                ("again", 7), ("itself",), ("both", 2, 10), ("left", 1), ("right", 1), ("orleft", 40), ("orright", 3), ("then", 4, 5),
                ("absurd", 6, 7), ("nothing", 1), ("at", 2, "Ann"), ("such", 3, "Q"), ("put", 4, 3), ("soif", 2), ("not", 2), ("contrary", 2),
                ("cases", 3, 2, 1), ("forany", 3), ("forsome", 4), ("meaning", 1), ("earlier", "one", (1, 2)), ("earlier", "times", (3,)),
                ("earlier", "z", ()), ("asmany", 1), ("one", 1), ("two", 1, 2, 3), ("someof", 1), ("none", 1), ("nomore", 1), ("apart", 1, 20),
                ("cover", 1), ("turned", 1), ("sums", (), ()), ("sums", (1,), (0,)), ("sums", (1, 1, 30), (5, 0, 999999999999)), ("by", (1,)),
                ("by", (3, 2)), ("by", (3, 2, 1)), ("clearly",))))
        rows = (
            "1 given", "2 | supposed", "3 | | any Yon", "4 | | called Zed 12", "5 again 7", "6 itself", "7 both 2 10", "8 left 1", "9 right 1",
            "10 orleft 40", "11 orright 3", "12 then 4 5", "13 absurd 6 7", "14 nothing 1", "15 at 2 Ann", "16 such 3 Q", "17 put 4 3", "18 soif 2",
            "19 not 2", "20 contrary 2", "21 cases 3 2 1", "22 forany 3", "23 forsome 4", "24 meaning 1", "25 earlier one 1 2",
            "26 earlier times 3", "27 earlier z", "28 asmany 1", "29 one 1", "30 two 1 2 3", "31 someof 1", "32 none 1", "33 nomore 1",
            "34 apart 1 20", "35 cover 1", "36 turned 1", "37 sums times", "38 sums 1 times 0", "39 sums 1 1 30 times 5 0 999999999999",
            "40 by 1", "41 by 3 2", "42 by 3 2 1", "43 clearly")
        self.assertEqual(self.back(whole), text(*HEAD, *(f"{row} : absurd" for row in rows)))

    def test_levels(self):
        lines = [supposed(level, FALSE) for level in range(1, 9)]
        rows = [f"{level}{' |' * level} supposed : absurd" for level in range(1, 9)]
        self.assertEqual(self.back(argument(*lines, (3, CAT, ("itself",)), clearly(0, CAT))), text(
            *HEAD, *rows, "9 | | | itself : Ann is a cat", "10 clearly : Ann is a cat"))

    def test_each_form(self):
        inner = ("is", "x", "cat")
        forms = (
            (CAT, "Ann is a cat"), (("does", "sees", "Ann", "Bob"), "Ann sees Bob"), (("same", "Bob", "Ann"), "Bob is Ann"), (FALSE, "absurd"),
            (("least", total(5, cat=1, dog=2), total(0)), "cat + 2 dog + 5 >= 0"), (("not", CAT), "not ( Ann is a cat )"),
            (("and", CAT, DOG), "( Ann is a cat ) and ( Ann is a dog )"), (("or", CAT, DOG), "( Ann is a cat ) or ( Ann is a dog )"),
            (("if", CAT, DOG), "if ( Ann is a cat ) then ( Ann is a dog )"), (("every", "x", inner), "every x ( x is a cat )"),
            (("some", "x", inner), "some x ( x is a cat )"))
        told = self.back(argument(*(given(form) for form, _ in forms)))
        self.assertEqual(told, text(*HEAD, *(f"{at} given : {words}" for at, (_, words) in enumerate(forms, 1))))

    def test_great_ones(self):
        tall = (("Ann", "Tom"), ("cat", "dog"), ("sees",))
        for form in (deep_form(12), wide_form(119)):
            self.back((tall, (), tuple([given(form)] * 60)))

    def test_sixty_lines_and_more(self):
        self.assertTrue(self.back(argument(*[given(CAT)] * 120)).endswith("\n120 given : Ann is a cat"))


class ReadBack(Asking):
    def test_arguments_of_all_sorts(self):
        chance = random.Random(361)
        for _ in range(150):
            whole = random_argument(chance, chance.randrange(4, 25))
            self.back(whole)
            self.back(with_gaps(chance, whole))

    def test_what_is_written_out(self):
        chance = random.Random(362)
        earlier = (("one", random_argument(chance, 8, ())), ("other", random_argument(chance, 8, ())))
        for _ in range(40):
            whole = random_argument(chance, 12, (), earlier)
            self.assertTrue(lets_by(whole, earlier))
            self.assertTrue(lets_by(read_argument(self.back(whole)), earlier))
        lines = (given(("or", CAT, DOG)), clearly(0, ("if", ("not", ("every", "x", ("is", "x", "cat"))), ("or", DOG, CAT))))
        told = written_out(argument(given(CAT), *lines))[0]
        self.assertTrue(lets_by(read_argument(self.back(told))))


class Blanks(Asking):
    def test_any_number_between_words(self):
        chance = random.Random(363)
        for _ in range(30):
            whole = random_argument(chance, 8)
            told = re.sub(" ", lambda _: " " * chance.randrange(1, 4), show_argument(whole))
            self.assertEqual(read_argument(told), whole)

    def test_ahead_of_the_words_and_behind_them(self):
        rows = [f"  {row}   " for row in EXAMPLE]
        self.assertEqual(self.read(*rows), self.read(*EXAMPLE))
        self.assertEqual(self.read("names ", "kinds  ", " doings", "1 given : absurd")[0], ((), (), ()))

    def test_a_word_needs_them(self):
        for at, row in (
                (0, "namesAnn Bob"), (0, "names AnnBob,"), (3, "meaning pet x7: ( x7 is a cat )"), (3, "meaning pet x7 :( x7 is a cat )"),
                (4, "1given : Ann is a cat"), (4, "1 given: Ann is a cat"), (4, "1 given :Ann is a cat"), (5, "2 |supposed : Bob is a dog"),
                (5, "2| supposed : Bob is a dog"), (6, "3 | again1 : Ann is a cat"), (7, "4 soif 2 : if (Bob is a dog) then ( Ann is a cat )")):
            self.row(with_row(at, row), at)

    def test_a_line_end_is_none(self):
        self.row(text(*EXAMPLE[:7], "4 soif 2 :", "if ( Bob is a dog ) then ( Ann is a cat )"), 7)
        self.row("names Ann\nBob\nkinds\ndoings\n1 given : absurd", 1)

    def test_rows_of_nothing(self):
        for at in range(len(EXAMPLE)):
            self.row(text(*EXAMPLE[:at], "", *EXAMPLE[at:]), at)
            self.row(text(*EXAMPLE[:at], "  ", *EXAMPLE[at:]), at)
        self.row(text(*EXAMPLE, ""), len(EXAMPLE))

    def test_other_signs_are_no_blanks(self):
        self.row(text(*EXAMPLE).replace("names Ann", "names\tAnn"), 0)
        self.row(with_row(4, "1\tgiven : Ann is a cat"), 4)
        self.row(with_row(4, "1 given : Ann is a cat\r"), 4)


class Sentences(Asking):
    def form(self, sentence, *more):
        """What a sentence is read to in a line behind others."""
        return self.read(*HEAD, *PETS, *more, f"{len(more) + 1} given : {sentence}")[2][-1][1]

    def test_any_sentences(self):
        for sentence in (
                "Ann is not a cat", "no cat sees Bob", "Ann is a cat and Bob is a dog", "Ann is a cat unless Bob is a dog", "( ( absurd ) )",
                "there are more cat than dog", "there are at least 12 dog", "Ann is a cat only if Bob is Ann", "either absurd or Ann is Bob",
                "every cat sees every dog", "if Ann is a cat then absurd", "every y ( some dog sees y )"):
            self.assertEqual(self.form(sentence), read_sentence(SMALL, sentence))

    def test_meanings_kinds(self):
        self.assertEqual(self.form("Ann is a pet"), ("is", "Ann", "pet"))
        self.assertEqual(self.form("every pet is a seer"), ("every", "x", ("if", ("is", "x", "pet"), ("is", "x", "seer"))))
        self.assertEqual(self.form("every x8 ( x8 is not a pet )"), ("every", "x8", ("not", ("is", "x8", "pet"))))

    def test_openers_names(self):
        told = self.read(
            *HEAD, "1 | any Zed : Zed is Zed", "2 | | called Amy 1 : Amy sees Zed", "3 | | by 1 2 : no cat sees Amy", "4 | again 1 : Zed is a cat",
            "5 forany 1 : every z ( z is a cat )")
        self.assertEqual([line[1] for line in told[2]], [
            ("same", "Zed", "Zed"), ("does", "sees", "Amy", "Zed"),
            ("every", "x", ("if", ("is", "x", "cat"), ("not", ("does", "sees", "x", "Amy")))), ("is", "Zed", "cat"), ("every", "z", ("is", "z", "cat"))])

    def test_openers_names_elsewhere(self):
        rows = (*HEAD, "1 | any Zed : Zed is Zed", "2 itself : Ann is Ann", "3 | supposed : absurd", "4 again 2 : Ann is Ann")
        self.read(*rows)
        self.row(with_row(4, "2 itself : Zed is Zed", rows), 4)
        self.row(with_row(5, "3 | supposed : Zed is Zed", rows), 5)
        self.row(with_row(6, "4 again 2 : Ann is Zed", rows), 6)
        self.row(with_row(3, "1 | any Zed : Zoe is Zoe", rows), 3)
        rows = (*HEAD, "1 | any Zed : Zed is Zed", "2 | any Yon : Yon is Yon", "3 itself : Ann is Ann")
        self.read(*rows)
        self.row(with_row(4, "2 | any Yon : Zed is Zed", rows), 4)
        # Ahead of the opener there is none yet.
        self.row(text(*HEAD, "1 | supposed : Zed is Zed", "2 | | any Zed : Zed is Zed", "3 itself : Ann is Ann"), 3)

    def test_no_reading(self):
        for sentence in ("", "Ann", "Ann is a cow", "Tom is a cat", "Ann likes Bob", "x is a cat", "Ann is a cat )", "( Ann is a cat", "every x x is a cat",
                         "every x ( y is a cat )", "dog + cat >= 1", "cat >= 01", ":", "Ann is a cat : Ann is a cat", "Ann is a cat and"):
            self.row(with_row(6, f"3 | again 1 : {sentence}"), 6)
            self.row(with_row(4, f"1 given : {sentence}"), 4)

    def test_two_readings(self):
        for sentence in ("every cat sees some dog", "not Ann is a cat and Bob is a cat", "Ann is a cat or Bob is a cat and absurd"):
            self.row(with_row(6, f"3 | again 1 : {sentence}"), 6)

    def test_two_readings_alike(self):
        self.assertEqual(self.form("every cat sees every dog"), read_sentence(SMALL, "every cat sees every dog"))

    def test_sums_count_no_meanings_kind(self):
        for sentence in ("pet >= 1", "there are at least 2 pet", "there are more cat than seer", "not ( cat >= dog + pet )"):
            self.row(text(*HEAD, *PETS, "1 given : absurd", f"2 given : {sentence}", "3 given : absurd"), 6)

    def test_a_meanings_letter_around_its_kind(self):
        for sentence in ("every x7 ( x7 is a pet )", "some z7 ( Ann is a pet )", "every y7 ( every x ( x is a seer ) )"):
            self.row(text(*HEAD, *PETS, "1 given : absurd", f"2 given : {sentence}", "3 given : absurd"), 6)
        self.assertEqual(self.form("every x7 ( x7 is a cat )"), ("every", "x7", ("is", "x7", "cat")))


class Meanings(Asking):
    def meaning(self, *rows):
        return self.read(*HEAD, *rows, "1 given : absurd")[1]

    def broken(self, *rows):
        """The last of the rows is broken."""
        self.row(text(*HEAD, *rows, "1 given : absurd"), 2 + len(rows))

    def test_as_within_every(self):
        told = self.meaning(
            "meaning pet x7 : x7 is a cat or x7 is a dog", "meaning shy y1 : not y1 sees Ann", "meaning odd z1 : absurd",
            "meaning seen u1 : some v1 ( v1 sees u1 and v1 is a shy )", "meaning calm w1 : Ann is Bob")
        self.assertEqual(told, (
            ("pet", "x7", ("or", ("is", "x7", "cat"), ("is", "x7", "dog"))), ("shy", "y1", ("not", ("does", "sees", "y1", "Ann"))),
            ("odd", "z1", FALSE), ("seen", "u1", ("some", "v1", ("and", ("does", "sees", "v1", "u1"), ("is", "v1", "shy")))),
            ("calm", "w1", ("same", "Ann", "Bob"))))

    def test_its_letter_bound_anew(self):
        self.assertEqual(self.meaning("meaning pet x7 : some x7 ( x7 is a cat )"), (("pet", "x7", ("some", "x7", ("is", "x7", "cat"))),))

    def test_brackets_of_its_own(self):
        self.broken("meaning pet x7 : x7 is a cat ) and ( x7 is a dog")
        self.broken("meaning pet x7 : x7 is a cat ) or every x8 ( x8 is a dog")
        self.broken("meaning pet x7 : ( x7 is a cat")
        self.broken("meaning pet x7 : x7 is a cat )")

    def test_broken_rows(self):
        for row in (
                "meaning", "meaning pet", "meaning pet x7", "meaning pet x7 :", "meaning pet x7 x7 is a cat", "meaning pet : x7 is a cat",
                "meaning x7 : x7 is a cat", "meaning pet pet x7 : x7 is a cat", "meaning pet x7 x8 : x7 is a cat", "meaning pet x7 : : x7 is a cat",
                "meanings pet x7 : x7 is a cat", "pet x7 : x7 is a cat", "meaning pet Ann : Ann is a cat", "meaning pet x77 : x77 is a cat",
                "meaning pet a1 : a1 is a cat", "meaning Pet x7 : x7 is a cat", "meaning p x7 : x7 is a cat", "meaning as x7 : x7 is a cat",
                "meaning petpetpet x7 : x7 is a cat", "meaning pet x7 : x7 is a cat :", "| meaning pet x7 : x7 is a cat",
                "meaning pet x7 ; x7 is a cat", "meaning pet x7 is x7 is a cat", "meaning pet x7 | x7 is a cat", "meaning pet x7 :: x7 is a cat"):
            self.broken(row)

    def test_what_breaks_13(self):
        for row in (
                "meaning cat x7 : x7 is a dog", "meaning sees x7 : x7 is a dog", "meaning pet x7 : x7 is a pet", "meaning pet x7 : x7 is a seer",
                "meaning pet x : x is a cat", "meaning pet x7 : some y ( x7 sees y )", "meaning pet x7 : x7 sees every cat",
                "meaning pet x7 : cat >= dog", "meaning pet x7 : x7 is a cat and there are at least 2 dog", "meaning pet x7 : y7 is a cat",
                "meaning pet x7 : Tom sees x7", "meaning pet x7 : x7 is a cat and x7 is a dog or absurd", "meaning pet x7 : some y7 ( x8 sees x7 )"):
            self.broken(row)

    def test_of_two(self):
        for row in (
                "meaning pet y7 : y7 is a cat", "meaning shy x7 : x7 is a cat", "meaning shy y7 : some x7 ( x7 sees y7 )", "meaning shy y7 : pet >= 1",
                "meaning shy y7 : y7 is a shy"):
            self.broken("meaning pet x7 : x7 is a cat", row)
        self.broken("meaning pet x7 : some y7 ( x7 sees y7 )", "meaning shy y7 : y7 is a cat")

    def test_behind_a_line(self):
        self.row(text(*HEAD, "1 given : absurd", PETS[0], "2 given : absurd"), 4)
        self.row(text(*HEAD, "1 given : absurd", PETS[0]), 4)

    def test_ahead_of_the_first_rows(self):
        for at in range(3):
            self.row(text(*HEAD[:at], PETS[0], *HEAD[at:], "1 given : absurd"), at)


class FirstRows(Asking):
    def head(self, *rows):
        return text(*rows, "1 given : absurd")

    def test_other_words_ahead(self):
        for at, word in enumerate(("names", "kinds", "doings")):
            for other in ("", "name", "Names", word + "s", "names kinds", ":"):
                rows = list(HEAD)
                rows[at] = rows[at].replace(word, other, 1)
                self.row(self.head(*rows), at)

    def test_in_another_order(self):
        self.row(self.head(HEAD[1], HEAD[0], HEAD[2]), 0)
        self.row(self.head(HEAD[0], HEAD[2], HEAD[1]), 1)
        self.row(self.head(HEAD[0], HEAD[0], HEAD[1], HEAD[2]), 1)
        self.row(self.head(*HEAD, HEAD[2]), 3)

    def test_one_lacks_ahead_of_others(self):
        self.row(self.head(*HEAD[:2]), 2)
        self.row(self.head(HEAD[0], HEAD[2]), 1)
        self.row(self.head(*HEAD[1:]), 0)

    def test_words_that_are_none(self):
        for row in ("names ann", "names Ann,", "names Annabella", "names Ann :", "names A1", "names x", "names Ann names"):
            self.row(self.head(row, *HEAD[1:]), 0)
        for row in ("kinds Cat", "kinds c", "kinds catcatcat", "kinds as", "kinds cat1", "kinds Ann", "kinds x1", "kinds every"):
            self.row(self.head(HEAD[0], row, HEAD[2]), 1)
        for row in ("doings Sees", "doings s", "doings seesseess", "doings is", "doings sees|"):
            self.row(self.head(*HEAD[:2], row), 2)

    def test_words_not_rising(self):
        self.row(self.head("names Bob Ann", *HEAD[1:]), 0)
        self.row(self.head("names Ann Ann", *HEAD[1:]), 0)
        self.row(self.head(HEAD[0], "kinds cat ant dog", HEAD[2]), 1)
        self.row(self.head(HEAD[0], "kinds cat dog dog", HEAD[2]), 1)
        self.row(self.head(*HEAD[:2], "doings ties sees"), 2)

    def test_a_kind_that_is_also_a_doing(self):
        self.row(self.head(HEAD[0], HEAD[1], "doings cat"), 2)
        self.row(self.head(HEAD[0], HEAD[1], "doings ant dog"), 2)

    def test_the_first_broken_row_goes_first(self):
        self.row(self.head("names Bob Ann", "kinds Cat", "doing"), 0)
        self.row(text(*HEAD, "1 given : absurd", "3 given : absurd", "2 given : no"), 4)
        self.row(text(HEAD[0], "kinds Cat", HEAD[2]), 1)


class LineRows(Asking):
    def test_numbers(self):
        for number in ("0", "2", "01", "1.", "-1", "+1", "", "one", "1 1", ":", "| 1"):
            self.row(with_row(4, f"{number} given : Ann is a cat"), 4)
        for number in ("2", "4", "03", "30"):
            self.row(with_row(6, f"{number} | again 1 : Ann is a cat"), 6)

    def test_bars(self):
        for row in ("2 supposed : Bob is a dog", "2 | | supposed : Bob is a dog", "2 || supposed : Bob is a dog", "| 2 supposed : Bob is a dog",
                    "2 supposed | : Bob is a dog", "2 | supposed : | Bob is a dog", "2 - supposed : Bob is a dog"):
            self.row(with_row(5, row), 5)
        self.row(with_row(6, "3 | | again 1 : Ann is a cat"), 6)
        self.row(with_row(4, "1 | given : Ann is a cat"), 4)
        # One less is right here; the box is another one then.
        self.assertEqual(read_argument(with_row(6, "3 again 1 : Ann is a cat"))[2][2], (0, CAT, ("again", 1)))

    def test_openers_levels(self):
        rows = (*HEAD, "1 | supposed : absurd", "2 | | any Zed : Zed is Zed", "3 | supposed : absurd", "4 clearly : absurd")
        self.read(*rows)
        self.row(with_row(3, "1 | | supposed : absurd", rows), 3)
        self.row(with_row(4, "2 | | | any Zed : Zed is Zed", rows), 4)
        self.row(with_row(4, "2 any Zed : Zed is Zed", rows), 4)
        self.row(with_row(5, "3 | | | | supposed : absurd", rows), 5)

    def test_reasons_words(self):
        for word in ("", "Again", "agains", "because", "again again", "is", ":", "|"):
            self.row(with_row(6, f"3 | {word} 1 : Ann is a cat"), 6)

    def test_a_part_more_or_less(self):
        rows = (*HEAD, *[f"{at} given : absurd" for at in (1, 2, 3)])
        shapes = {
            "": ("given", "itself", "clearly"), "1": ("again", "left", "nothing", "soif", "contrary", "forany", "meaning", "one", "turned"),
            "1 2": ("both", "then", "put", "apart"), "1 2 3": ("cases", "two"), "1 Ann": ("at", "such")}
        for parts, words in shapes.items():
            for word in words:
                self.read(*rows, f"4 {word} {parts} : absurd")
                others = {f"{parts} 1", f"{parts} Ann", f"1 {parts}", parts.rpartition(" ")[0], parts.replace("1", "x", 1), parts.replace("1", "01", 1)}
                for other in others - {parts}:
                    self.row(text(*rows, f"4 {word} {other} : absurd", "5 given : absurd"), 6)

    def test_parts_of_openers(self):
        for row in ("1 | supposed 1", "1 | any", "1 | any zed", "1 | any Zed 1", "1 | any Zed Yon", "1 | any 1", "1 | called Zed", "1 | called 1 Zed",
                    "1 | called Zed 1 1", "1 | called Zed 0", "1 | called zed 1", "1 | called"):
            self.row(text(*HEAD, f"{row} : absurd", "2 given : absurd"), 3)

    def test_names_of_reasons_may_be_any(self):
        self.assertEqual(self.read(*HEAD, "1 at 1 Zoe : absurd")[2][0][2], ("at", 1, "Zoe"))
        self.row(text(*HEAD, "1 at 1 zoe : absurd"), 3)
        self.row(text(*HEAD, "1 at 1 x : absurd"), 3)

    def test_sums(self):
        rows = (*HEAD, "1 given : cat >= 1")
        for parts in ("", "1", "1 times", "times 1", "1 1 times 2", "1 times 1 1", "times times", "1 times 1 times", "1 times x", "1 times 01", "1 Times 1",
                      "1 times -1", "0 times 1", "01 times 1", "x times 1", "1 times Ann", "Ann times 1", "1 | times 1"):
            self.row(text(*rows, f"2 sums {parts} : cat >= 1"), 4)
        self.assertEqual(self.read(*rows, "2 sums 1 1 times 0 4 : cat >= 1")[2][1][2], ("sums", (1, 1), (0, 4)))
        self.assertEqual(self.read(*rows, "2 sums times : cat >= 1")[2][1][2], ("sums", (), ()))

    def test_earlier(self):
        for parts in ("", "1", "Ann", "one x", "one 01", "one 0", "one 1 two", "oneoneone", "one 1 times 1", "o1", "one one", "one times"):
            self.row(text(*HEAD, f"1 earlier {parts} : absurd"), 3)
        for name in ("one", "o", "oneoneon", "times", "is", "sums", "earlier"):
            self.assertEqual(self.read(*HEAD, f"1 earlier {name} 1 1 : absurd")[2][0][2], ("earlier", name, (1, 1)))

    def test_by(self):
        for parts in ("", "1 1 1 1", "0", "1 0", "01", "Ann", "1 Ann", "times", "1 times 1"):
            self.row(text(*HEAD, f"1 by {parts} : absurd", "2 given : absurd"), 3)

    def test_colons(self):
        self.row(with_row(4, "1 given Ann is a cat"), 4)
        self.row(with_row(4, "1 given : : Ann is a cat"), 4)
        self.row(with_row(4, ": Ann is a cat"), 4)
        self.row(with_row(4, "1 : given : Ann is a cat"), 4)
        self.row(with_row(4, "1 given ;"), 4)

    def test_names_of_openers(self):
        rows = (*HEAD, "1 | any Zed : Zed is Zed", "2 | | called Yon 1 : absurd", "3 clearly : absurd")
        self.read(*rows)
        self.row(with_row(3, "1 | any Ann : Ann is Ann", rows), 3)
        self.row(with_row(4, "2 | | called Zed 1 : absurd", rows), 4)
        self.row(with_row(4, "2 | called Zed 1 : absurd", rows), 4)
        self.row(with_row(4, "2 | | called Bob 1 : absurd", rows), 4)
        # Also where the first box is done long ago.
        self.row(text(*HEAD, "1 | any Zed : absurd", "2 given : absurd", "3 | any Zed : absurd", "4 given : absurd"), 5)

    def test_whether_lines_are_right_is_not_asked(self):
        told = self.read(*HEAD, "1 both 2 3 : absurd", "2 given : absurd", "3 soif 1 : absurd")
        self.assertFalse(lets_by(told))


class TheEnd(Asking):
    def test_no_line(self):
        self.row(text(*HEAD), 2)
        self.row(text(*HEAD, *PETS), 4)

    def test_first_rows_that_lack(self):
        self.row("", 0)
        self.row("names", 0)
        self.row("names Ann\nkinds", 1)
        self.row("names\nkinds\ndoings", 2)

    def test_the_last_level(self):
        for last in range(1, 4):
            rows = [f"{level}{' |' * level} supposed : absurd" for level in range(1, last + 1)]
            self.row(text(*HEAD, *rows), 2 + last)
        self.row(text(*EXAMPLE[:7]), 6)
        self.row(text(*EXAMPLE[:6]), 5)

    def test_a_line_that_there_is_not(self):
        self.row(with_row(6, "3 | again 5 : Ann is a cat"), 7)
        self.row(with_row(6, "3 | again 999999999999 : Ann is a cat"), 7)
        self.row(text(*HEAD, "1 by 1 2 3 : absurd", "2 given : absurd"), 4)
        self.row(text(*HEAD, "1 sums 3 times 1 : absurd", "2 given : absurd"), 4)
        self.row(text(*HEAD, "1 earlier one 1 3 : absurd", "2 given : absurd"), 4)
        self.row(text(*HEAD, "1 | called Zed 3 : absurd", "2 given : absurd"), 4)
        self.row(text(*HEAD, "1 at 2 Ann : absurd"), 3)
        self.row(text(*HEAD, "1 cases 1 1 2 : absurd"), 3)
        # Of times there may be any.
        self.read(*HEAD, "1 sums 1 times 3 : absurd")
        self.read(*HEAD, "1 earlier one 2 : absurd", "2 given : absurd")

    def test_a_nought_is_broken_at_once(self):
        self.row(with_row(6, "3 | again 0 : Ann is a cat"), 6)
        self.row(text(*HEAD, "1 both 1 0 : absurd", "2 given : absurd"), 3)

    def test_a_later_row_that_is_broken_of_itself_goes_first(self):
        rows = (*HEAD, "1 again 9 : absurd", "2 given : absurd", "3 given : cow", "4 given : absurd")
        self.row(text(*rows), 5)

    def test_all_at_once(self):
        self.row(text(*HEAD, "1 | supposed : absurd", "2 | again 9 : absurd"), 4)


class NoTexts(Asking):
    def test_what_is_no_text(self):
        for thing in ODD_THINGS + (text(*EXAMPLE).encode(), list(EXAMPLE), EXAMPLE, read_argument(text(*EXAMPLE)), 0.5):
            self.row(thing, 0)

    def test_texts_of_other_sorts(self):
        for told in ("", " ", "\n", "\n\n\n", "names:", "Ann is a cat", "1 given : absurd"):
            self.row(told, 0)

    def test_many_words_and_rows(self):
        self.row(text(*EXAMPLE, *["5 given : absurd"] * 2000), len(EXAMPLE) + 1)
        self.row("names " + "( " * 29990, 0)
        self.row(with_row(4, "1 given : " + "( " * 20000), 4)
        self.row(with_row(4, "1 " + "| " * 20000 + "given : absurd"), 4)


def bent_words(chance, words):
    """A row's words bent at one place."""
    at = chance.randrange(len(words) + 1)
    pool = ("1", "2", "0", "7", "|", ":", "absurd", "given", "supposed", "any", "Zed", "Ann", "pet", "cat", "x7", "x", "again", "meaning", "(", ")", "not", "and", "times")
    bend = chance.randrange(5)
    if bend == 0:
        return words[:at] + words[at + 1:]
    if bend == 1:
        return words[:at] + [chance.choice(pool)] + words[at:]
    if bend == 2:
        return words[:at] + [chance.choice(pool)] + words[at + 1:]
    if bend == 3:
        return words[:at] + words[at:at + 1] * 2 + words[at + 1:]
    return words[:at] + words[at:at + 2][::-1] + words[at + 2:]


def bent_rows(chance, rows):
    """Rows bent at one place."""
    at = chance.randrange(len(rows))
    bend = chance.randrange(8)
    if bend == 0:
        return rows[:at] + rows[at + 1:]
    if bend == 1:
        return rows[:at] + [rows[at], rows[at]] + rows[at + 1:]
    if bend == 2:
        return rows[:at] + rows[at:at + 2][::-1] + rows[at + 2:]
    if bend == 3:
        return rows[:at + 1]
    return rows[:at] + [" ".join(bent_words(chance, rows[at].split(" ")))] + rows[at + 1:]


class AgainstASlowReader(Asking):
    def test_bent_texts(self):
        chance = random.Random(364)
        broken = read = 0
        for _ in range(70):
            whole = random_argument(chance, chance.randrange(2, 9))
            rows = show_argument(with_gaps(chance, whole)).split("\n")
            self.assertEqual(slow_read(text(*rows)), read_argument(text(*rows)))
            for _ in range(6):
                told = text(*bent_rows(chance, bent_rows(chance, rows) if chance.random() < 0.2 and len(rows) > 1 else rows))
                self.assertEqual(read_or_row(told), slow_read(told), told)
                broken += isinstance(slow_read(told), int)
                read += not isinstance(slow_read(told), int)
        self.assertGreater(broken, 150)
        self.assertGreater(read, 20)

    def test_levels_and_names_by_chance(self):
        chance = random.Random(365)
        seen = {}
        for _ in range(600):
            rows = list(HEAD)
            for number in range(1, chance.randrange(2, 7)):
                reason = chance.choice(("supposed", "any Zed", "any Yon", "called Zed 1", "itself", "again 2", "clearly"))
                form = chance.choice(("absurd", "absurd", "Zed is a cat", "Yon is Ann"))
                rows.append(f"{number}{' |' * chance.choice((0, 1, 1, 2))} {reason} : {form}")
            told = read_or_row(text(*rows))
            self.assertEqual(told, slow_read(text(*rows)), rows)
            seen[told if isinstance(told, int) else "read"] = True
        self.assertEqual(len(seen), 6)


if __name__ == "__main__":
    unittest.main()

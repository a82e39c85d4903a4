"""[10], [11], [12], and of [3]: sentences, their readings, what is refused."""

import itertools
import random
import unittest

from linecourt.errors import NoSentence, TwoReadings
from linecourt.forms import free_letters, is_form, is_of, parts_of
from linecourt.formtexts import show_form
from linecourt.sentences import read_sentence, readings
from tests.samples import deep_form, wide_form

FULL = (("Ann", "Bob", "Tom"), ("cat", "dog", "owl"), ("likes", "sees"))
SIX = ("x", "y", "z", "u", "v", "w")
A, B, C, D = (("is", "Ann", "cat"), ("is", "Bob", "dog"), ("same", "Ann", "Tom"), ("false",))
TEXTS = {"A": "Ann is a cat", "B": "Bob is a dog", "C": "Ann is Tom", "D": "absurd"}


def no(form):
    return ("not", form)


def both(one, other):
    return ("and", one, other)


def either(one, other):
    return ("or", one, other)


def soif(one, other):
    return ("if", one, other)


def kind(word, number=0):
    return (((word, 1),), number)


def by_text(forms):
    return tuple(sorted(forms, key=show_form))


def spelt(text):
    """A text with whole sentences put for A, B, C, D."""
    return " ".join(TEXTS.get(word, word) for word in text.split(" "))


def bind(letters, text):
    """A text within an every for each letter."""
    for letter in reversed(letters):
        text = f"every {letter} ( {text} )"
    return text


def unbind(letters, form):
    for letter in letters:
        assert form[:2] == ("every", letter)
        form = form[2]
    return form


# Another reader, for comparison: rules with places for words and sentences, matched in all ways.
RULES = (
    ("T is a K", lambda t, k: [("is", t, k)]), ("T is not a K", lambda t, k: [no(("is", t, k))]),
    ("T is T", lambda t, u: [("same", t, u)]), ("T is not T", lambda t, u: [no(("same", t, u))]),
    ("T D T", lambda t, d, u: [("does", d, t, u)]), ("T not D T", lambda t, d, u: [no(("does", d, t, u))]),
    ("absurd", lambda: [("false",)]), ("not S", lambda f: [no(f)]), ("S and Sand", lambda f, g: [both(f, g)]),
    ("S or Sor", lambda f, g: [either(f, g)]), ("either S or S", lambda f, g: [either(f, g)]),
    ("S unless S", lambda f, g: [either(f, g)]), ("if S then S", lambda f, g: [soif(f, g)]),
    ("S if S", lambda g, f: [soif(f, g)]), ("S only if S", lambda f, g: [soif(f, g)]), ("( S )", lambda f: [f]),
    ("there are more K than K", lambda k, j: [("least", kind(k), kind(j, 1))]),
    ("there are as many K as K", lambda k, j: [both(("least", kind(k), kind(j)), ("least", kind(j), kind(k)))]),
    ("there are at least as many K as K", lambda k, j: [("least", kind(k), kind(j))]),
)


def matches(pattern, words, ask):
    """All ways in which words fit a pattern: lists of what stands at its places."""
    if not pattern:
        if not words:
            yield []
        return
    place, rest = pattern[0], pattern[1:]
    longest = len(words) - len(rest) if place[0] == "S" else 1
    for many in range(1, longest + 1):
        for told in ask(place, words[:many]):
            for more in matches(rest, words[many:], ask):
                yield told + more


def ask_place(place, words):
    """What may stand at a place: a list of lists of one thing, or of none."""
    if place[0] == "S":
        return [[form] for form, top in slow_readings(words) if top != place[1:] or not top]
    if len(words) != 1:
        return []
    groups = {"T": FULL[0], "K": FULL[1], "D": FULL[2]}
    if place in groups:
        return [[words[0]]] if words[0] in groups[place] else []
    return [[]] if words[0] == place else []


KEPT = {}


def slow_readings(words):
    """The forms and top words of a row of words, without letters, sums and every, some, no."""
    words = tuple(words)
    if words not in KEPT:
        told = []
        for rule, make in RULES:
            pattern = rule.split(" ")
            top = pattern[1] if rule in ("S and Sand", "S or Sor") else ""
            if len(pattern) <= len(words):
                for found in matches(pattern, words, ask_place):
                    told.extend((form, top) for form in make(*found))
        KEPT[words] = list(dict.fromkeys(told))
    return KEPT[words]


class Readings(unittest.TestCase):
    def check(self, text, *wanted):
        told = readings(FULL, text)
        self.assertIsInstance(told, tuple)
        self.assertEqual(told, by_text(wanted), text)
        for form in told:
            self.assertTrue(is_form(form) and is_of(FULL, form) and free_letters(form) == (), form)
        if not wanted:
            with self.assertRaises(NoSentence):
                read_sentence(FULL, text)
        elif len(wanted) == 1:
            self.assertEqual(read_sentence(FULL, text), wanted[0])
        else:
            with self.assertRaises(TwoReadings) as caught:
                read_sentence(FULL, text)
            self.assertEqual((caught.exception.one, caught.exception.other), told[:2])

    def spelt(self, text, *wanted):
        self.check(spelt(text), *wanted)


class SimpleSentences(Readings):
    def test_of_terms(self):
        sees = ("does", "sees", "Ann", "Bob")
        for text, form in (
            ("Ann is a cat", A), ("Ann is not a cat", no(A)), ("Ann is Tom", C), ("Ann is not Tom", no(C)),
            ("Ann is Ann", ("same", "Ann", "Ann")), ("Ann sees Bob", sees), ("Ann not sees Bob", no(sees)),
            ("absurd", D), ("not Ann is a cat", no(A)), ("not ( Ann is a cat )", no(A)), ("( Ann is a cat )", A),
            ("( ( absurd ) )", D), ("not not absurd", no(no(D))), ("not Ann is not a cat", no(no(A))),
        ):
            self.check(text, form)

    def test_every_some_no_alone(self):
        x = "x"
        for said, text in (
            (("is", x, "dog"), "{} cat is a dog"), (no(("is", x, "dog")), "{} cat is not a dog"),
            (("does", "sees", x, "Ann"), "{} cat sees Ann"), (("does", "sees", "Ann", x), "Ann sees {} cat"),
        ):
            named = ("is", x, "cat")
            self.check(text.format("every"), ("every", x, soif(named, said)))
            self.check(text.format("some"), ("some", x, both(named, said)))
            self.check(text.format("no"), ("every", x, soif(named, no(said))))

    def test_two_of_them(self):
        def said_of(word, letter, of, said):
            named = ("is", letter, of)
            return {"every": ("every", letter, soif(named, said)), "some": ("some", letter, both(named, said)),
                    "no": ("every", letter, soif(named, no(said)))}[word]
        said = ("does", "likes", "x", "y")
        for one, other in itertools.product(("every", "some", "no"), repeat=2):
            for second in ("cat", "dog"):
                first = said_of(one, "x", "cat", said_of(other, "y", second, said))
                turned = said_of(other, "y", second, said_of(one, "x", "cat", said))
                text = f"{one} cat likes {other} {second}"
                self.check(text, *([first] if one == other else [first, turned]))

    def test_counts(self):
        for text, form in (
            ("there are at least as many cat as dog", ("least", kind("cat"), kind("dog"))),
            ("there are more cat than dog", ("least", kind("cat"), kind("dog", 1))),
            ("there are as many cat as dog", both(("least", kind("cat"), kind("dog")), ("least", kind("dog"), kind("cat")))),
            ("there are at least 3 cat", ("least", kind("cat"), ((), 3))),
            ("there are at least 0 cat", ("least", kind("cat"), ((), 0))),
            ("there are at least 999999999999 cat", ("least", kind("cat"), ((), 999999999999))),
            ("there are as many cat as cat", both(("least", kind("cat"), kind("cat")), ("least", kind("cat"), kind("cat")))),
        ):
            self.check(text, form)
        for text in ("there are at least 03 cat", "there are at least 00 cat", "there are at least -1 cat",
                     "there are at least +1 cat", "there are at least 1_0 cat", "there are at least cat",
                     "there are at least 3", "there are 3 cat", "there are more cat as dog", "there are as many cat than dog",
                     "there are more cat than 3", "there are at least 3 Ann", "there are at least three cat",
                     "there are at least as many cat as Ann", "there is a cat", "are at least 3 cat"):
            self.check(text)

    def test_sums(self):
        for text, one, other in (
            ("cat >= dog", kind("cat"), kind("dog")), ("0 >= 0", ((), 0), ((), 0)), ("cat >= 5", kind("cat"), ((), 5)),
            ("2 cat + 3 dog + 4 >= owl + 1", ((("cat", 2), ("dog", 3)), 4), kind("owl", 1)),
            ("12 >= cat + dog + owl", ((), 12), ((("cat", 1), ("dog", 1), ("owl", 1)), 0)),
            ("999999999999 cat + 999999999999 >= 10", ((("cat", 999999999999),), 999999999999), ((), 10)),
        ):
            self.check(text, ("least", one, other))
            self.check("( " + text + " )", ("least", one, other))
        for total in ("dog + cat", "cat + cat", "owl + dog + cat", "cat + owl + dog", "5 + cat", "cat + 0", "1 cat", "0 cat",
                      "cat + 05", "02 cat", "00", "05", "cat + 1 + 2", "cat dog", "2 3 cat", "cat 2", "+ cat", "cat +", "+",
                      "cat + + dog", "", "Ann", "bee", "2 bee", "2 Ann", "cat + 2 sees", "2 2", "-1", "+1", "1_0", "cat+dog", "2cat", "( cat )", "x", "1 + 2",
                      "\u0661", "\u00b2", "\u00b2 cat", "cat + \u0661"):
            self.check(total + " >= 1")
            self.check("1 >= " + total)
        for text in ("cat >= dog >= owl", "cat > dog", "cat = dog", ">=", "cat >=", ">= cat", "cat", "not >= cat"):
            self.check(text)

    def test_blanks(self):
        for text in (" Ann is a cat", "Ann is a cat ", "   Ann   is a    cat   ", "Ann  is  a  cat", " ( Ann is a cat ) "):
            self.check(text, A)
        for text in ("", " ", "     ", "Ann\nis a cat", "Ann is a cat\n", "\nAnn is a cat", "Ann is a\ncat", "\n",
                     "Ann \n is a cat", "Annis a cat", "Ann\tis a cat", "(Ann is a cat)", "( Ann is a cat)", "not(absurd)"):
            self.check(text)

    def test_no_sentences(self):
        for text in (
            "Zed is a cat", "Ann is a bee", "Ann hits Bob", "ann is a cat", "Ann is an owl", "Ann is cat", "Ann a cat",
            "is a cat", "Ann is", "Ann is a", "Ann", "cat", "Ann is a Bob", "Ann cat Bob", "Ann is a sees", "Ann sees cat",
            "Ann sees", "sees Ann", "every cat", "every Ann is a cat", "every cat is Ann", "every cat is not Ann",
            "every cat not sees Ann", "Ann not sees every cat", "all cat is a dog", "any cat is a dog", "every bee is a cat",
            "Ann sees no", "no sees Ann", "Ann sees not Bob", "Ann is not not a cat", "Ann not is a cat",
            "every every is a cat", "x is a cat", "Ann sees x", "x is x", "every cat is a dog dog",
            "Ann is a cat .", "Ann is a cat,", "false", "Absurd", "absurd absurd", "not", "and", "a", "not a cat",
            "every cat sees every dog sees Ann", "Ann is every cat", "some is a cat", "Ann is some cat", "Ann is a a cat",
        ):
            self.check(text)

    def test_other_vocabularies(self):
        self.assertEqual(readings(((), (), ()), "Ann is a cat"), ())
        self.assertEqual(readings((("Ann",), (), ()), "Ann is Ann"), (("same", "Ann", "Ann"),))
        self.assertEqual(readings(((), (), ()), "absurd or 1 >= 2"), (either(D, ("least", ((), 1), ((), 2))),))
        self.assertEqual(readings(((), ("sees",), ("cat",)), "every sees cat some sees"), by_text((
            ("every", "x", soif(("is", "x", "sees"), ("some", "y", both(("is", "y", "sees"), ("does", "cat", "x", "y"))))),
            ("some", "y", both(("is", "y", "sees"), ("every", "x", soif(("is", "x", "sees"), ("does", "cat", "x", "y"))))),
        )))


class JoinedSentences(Readings):
    def test_two(self):
        for text, form in (
            ("A and B", both(A, B)), ("A or B", either(A, B)), ("either A or B", either(A, B)), ("A unless B", either(A, B)),
            ("if A then B", soif(A, B)), ("A if B", soif(B, A)), ("A only if B", soif(A, B)), ("( A ) and ( B )", both(A, B)),
            ("either ( A ) or B", either(A, B)), ("if ( A ) then B", soif(A, B)), ("( A ) only if ( B )", soif(A, B)),
            ("( A and B )", both(A, B)), ("A if ( B )", soif(B, A)), ("( ( A ) ) unless ( ( B ) )", either(A, B)),
        ):
            self.spelt(text, form)

    def test_three_of_one_word(self):
        self.spelt("A and B and C", both(both(A, B), C))
        self.spelt("A or B or C", either(either(A, B), C))
        self.spelt("A and B and C and D", both(both(both(A, B), C), D))
        self.spelt("A or B or C or D", either(either(either(A, B), C), D))
        self.spelt("A unless B unless C", either(either(A, B), C), either(A, either(B, C)))
        self.spelt("A if B if C", soif(C, soif(B, A)), soif(soif(C, B), A))
        self.spelt("A only if B only if C", soif(A, soif(B, C)), soif(soif(A, B), C))
        self.spelt("if A then if B then C", soif(A, soif(B, C)))
        self.spelt("if if A then B then C", soif(soif(A, B), C))

    def test_brackets_hold_together(self):
        self.spelt("A and ( B and C )", both(A, both(B, C)))
        self.spelt("( A and B ) and C", both(both(A, B), C))
        self.spelt("A or ( B or C )", either(A, either(B, C)))
        self.spelt("A and ( B or C )", both(A, either(B, C)))
        self.spelt("( A and B ) or C", either(both(A, B), C))
        self.spelt("A and ( B and C ) and D", both(both(A, both(B, C)), D))
        self.spelt("not ( A and B )", no(both(A, B)))
        self.spelt("A and ( B and C and D )", both(A, both(both(B, C), D)))

    def test_two_words(self):
        self.spelt("A and B or C", either(both(A, B), C), both(A, either(B, C)))
        self.spelt("A or B and C", both(either(A, B), C), either(A, both(B, C)))
        self.spelt("not A and B", both(no(A), B), no(both(A, B)))
        self.spelt("not A or B", either(no(A), B), no(either(A, B)))
        self.spelt("A and not B", both(A, no(B)))
        self.spelt("A and not B and C", both(both(A, no(B)), C), both(A, no(both(B, C))))
        self.spelt("if A then B and C", soif(A, both(B, C)), both(soif(A, B), C))
        self.spelt("if A and B then C", soif(both(A, B), C))
        self.spelt("A and if B then C and D", both(both(A, soif(B, C)), D), both(A, soif(B, both(C, D))))
        self.spelt("A if B and C", soif(both(B, C), A), both(soif(B, A), C))
        self.spelt("A only if B or C", soif(A, either(B, C)), either(soif(A, B), C))
        self.spelt("if A then B if C", soif(C, soif(A, B)), soif(A, soif(C, B)))
        self.spelt("A if if B then C", soif(soif(B, C), A))

    def test_either_and_unless_are_other_words_than_or(self):
        left, right = either(either(A, B), C), either(A, either(B, C))
        self.spelt("either A or B or C", left, right)
        self.spelt("A or either B or C", right)
        self.spelt("A or B unless C", left, right)
        self.spelt("A unless B or C", left, right)
        self.spelt("either either A or B or C", left)
        self.spelt("either A or either B or C", right)
        # The bracketless either B or C or D may stand behind or where either is its top word.
        self.spelt("A or either B or C or D", either(A, either(B, either(C, D))), either(A, either(either(B, C), D)),
                   either(either(A, either(B, C)), D))

    def test_as_many_has_no_and_at_its_top(self):
        many = both(("least", kind("cat"), kind("dog")), ("least", kind("dog"), kind("cat")))
        self.spelt("A and there are as many cat as dog", both(A, many))
        self.spelt("there are as many cat as dog and A", both(many, A))
        self.spelt("A and there are as many cat as dog and B", both(both(A, many), B))

    def test_forms_that_come_twice_are_told_once(self):
        self.spelt("A and A or A", both(A, either(A, A)), either(both(A, A), A))
        self.spelt("D unless D unless D", either(either(D, D), D), either(D, either(D, D)))
        told = readings(FULL, spelt("either A or B or C or D"))
        self.assertEqual(len(told), len(set(told)))

    def test_no_sentences(self):
        for text in ("A and", "and A", "A and and B", "A B", "A ( B )", "( A ) ( B )", "( A", "A )", "( A ) )", "( ( A )", ")", "(",
                     "( )", "A and ( )", ") A (", "either A", "either A and B", "if A", "if A B", "A then B", "A only B", "only if A",
                     "A if", "if A then", "if then B", "A only if", "A unless", "unless A", "or A", "A not", "A not B",
                     "( A and ) B", "A ( and B )", "if ( A then B )", "( either A ) or B", "( if A ) then B", "A only ( if B )",
                     "A nor B", "neither A or B", "not ( )", "A iff B"):
            self.spelt(text)

    def test_two_within_brackets(self):
        self.spelt("( A and B or C ) and D", both(either(both(A, B), C), D), both(both(A, either(B, C)), D))
        two = "( every cat sees some dog )"
        first, second = readings(FULL, two)
        self.check(two + " and " + two, *(both(one, other) for one in (first, second) for other in (first, second)))
        self.check("not " + two, no(first), no(second))

    def test_the_same_as_by_another_reader(self):
        chance = random.Random(3)
        words = ("not", "and", "or", "either", "unless", "if", "only", "then", "(", ")", "A", "B", "D")
        count = 0
        for _ in range(4000):
            row = [chance.choice(words) for _ in range(chance.randrange(1, 8))]
            text = spelt(" ".join(row))
            wanted = by_text({form for form, top in slow_readings(text.split(" "))})
            self.assertEqual(readings(FULL, text), wanted, text)
            count += bool(wanted)
        self.assertGreater(count, 30)

    def test_grown_sentences_the_same_as_by_another_reader(self):
        chance = random.Random(4)
        shapes = ("not S", "S and S", "S or S", "either S or S", "S unless S", "if S then S", "S if S", "S only if S", "( S )")
        simple = ("absurd", "Ann is Bob", "Ann is not a cat", "there are as many cat as dog", "Bob not sees Ann")
        counted = "not and or either unless if only".split(" ")
        for _ in range(150):
            text = "S"
            while sum(text.split(" ").count(word) for word in counted) < chance.randrange(1, 5) and "S" in text.split(" "):
                text = chance.choice(shapes).join(text.split("S", 1))
            while "S" in text:
                text = chance.choice(simple).join(text.split("S", 1))
            wanted = by_text({form for form, top in slow_readings(text.split(" "))})
            self.assertTrue(wanted, text)
            self.assertEqual(readings(FULL, text), wanted, text)

    def test_six_words(self):
        told = readings(FULL, spelt("A or B and C or D and A or B and C"))
        self.assertEqual(len(told), len(set(told)))
        wanted = {form for form, top in slow_readings(spelt("A or B and C or D and A or B and C").split(" "))}
        self.assertEqual(told, by_text(wanted))
        self.spelt("A and B and C and D and A and B and C", both(both(both(both(both(both(A, B), C), D), A), B), C))

    def test_many_brackets(self):
        self.check("( " * 5000 + "Ann is a cat" + " )" * 5000, A)
        self.check("( " * 5000 + "Ann is a cat" + " )" * 4999)
        self.check("( " * 4999 + "Ann is a cat" + " )" * 5000)

    def test_long_texts(self):
        self.check("Ann " * 12000)
        self.check("Ann is a cat " + " " * 50000 + "and Bob is a dog", both(A, B))


class Letters(Readings):
    def test_every_and_some_of_letters(self):
        for word in ("every", "some"):
            for letter in ("x", "u", "z9"):
                cat = ("is", letter, "cat")
                self.check(f"{word} {letter} ( {letter} is a cat )", (word, letter, cat))
                self.check(f"{word} {letter} ( ( {letter} is a cat ) )", (word, letter, cat))
                self.check(f"{word} {letter} ( not {letter} is a cat )", (word, letter, no(cat)))
                self.check(f"{word} {letter} ( absurd )", (word, letter, D))
                self.check(f"not {word} {letter} ( {letter} sees Ann ) and absurd",
                           both(no((word, letter, ("does", "sees", letter, "Ann"))), D),
                           no(both((word, letter, ("does", "sees", letter, "Ann")), D)))

    def test_there_is_always_a_bracket(self):
        for text in ("every x x is a cat", "some x x is a cat", "every x absurd", "every x not ( absurd )", "every x",
                     "every x ( )", "no x ( absurd )", "every a ( absurd )", "every x10 ( absurd )", "every Ann ( absurd )",
                     "every x y ( absurd )", "every ( absurd )", "every x ( absurd ) ( absurd )", "x ( absurd )",
                     "every x every y ( absurd )", "every cat ( absurd )", "not every x absurd"):
            self.check(text)

    def test_letters_that_are_not_bound(self):
        for text in ("every x ( y is a cat )", "every x ( absurd ) and x is a cat", "x is a cat and every x ( absurd )",
                     "every x1 ( x is a cat )", "every x ( x1 is a cat )", "some x ( some y ( z sees x ) )",
                     "( every x ( x is a cat ) ) or ( x is a dog )", "every cat sees x"):
            self.check(text)

    def test_letters_bound_around(self):
        self.check("every x ( some y ( x sees y ) )", ("every", "x", ("some", "y", ("does", "sees", "x", "y"))))
        self.check("every x ( every x ( x is x ) )", ("every", "x", ("every", "x", ("same", "x", "x"))))
        self.check("every x ( x is a cat and some x ( x is a dog ) )",
                   ("every", "x", both(("is", "x", "cat"), ("some", "x", ("is", "x", "dog")))))
        self.check("every x ( x is not Ann )", ("every", "x", no(("same", "x", "Ann"))))
        self.check("every x ( x not sees Ann )", ("every", "x", no(("does", "sees", "x", "Ann"))))

    def test_the_first_letter_that_is_not_bound(self):
        for many in range(6):
            letter = SIX[many]
            form = unbind(SIX[:many], read_sentence(FULL, bind(SIX[:many], "every cat is a dog")))
            self.assertEqual(form, ("every", letter, soif(("is", letter, "cat"), ("is", letter, "dog"))))
        for bound, letter in ((("y",), "x"), (("x", "z"), "y"), (("w", "y", "x"), "z"), (("x", "x"), "y"), (("x1", "y0"), "x"),
                              (("z", "y", "x", "w", "v"), "u"), (("x", "y", "z", "u", "w"), "v")):
            form = unbind(bound, read_sentence(FULL, bind(bound, "Ann sees no cat")))
            self.assertEqual(form, ("every", letter, soif(("is", letter, "cat"), no(("does", "sees", "Ann", letter)))))

    def test_the_next_letter_for_the_second_word(self):
        for bound, one, other in (((), "x", "y"), (("x",), "y", "z"), (("y",), "x", "z"), (("x", "z", "u"), "y", "v"),
                                  (("x", "y", "z", "u"), "v", "w"), (("w", "u"), "x", "y"), (("y", "z", "u", "v"), "x", "w")):
            said = ("does", "sees", one, other)
            cat, dog = ("is", one, "cat"), ("is", other, "dog")
            told = [unbind(bound, form) for form in readings(FULL, bind(bound, "every cat sees some dog"))]
            self.assertEqual(tuple(told), by_text((
                ("every", one, soif(cat, ("some", other, both(dog, said)))),
                ("some", other, both(dog, ("every", one, soif(cat, said)))),
            )))
            form = unbind(bound, read_sentence(FULL, bind(bound, "some cat sees some dog")))
            self.assertEqual(form, ("some", one, both(cat, ("some", other, both(dog, said)))))

    def test_where_no_letter_is_left(self):
        for text in ("every cat is a dog", "some cat is not a dog", "no cat sees Ann", "Ann sees every cat", "x sees some cat",
                     "every cat sees every dog", "every cat sees some dog"):
            self.check(bind(SIX, text))
        for text in ("every cat sees every dog", "every cat sees some dog", "no cat sees no dog"):
            for bound in itertools.combinations(SIX, 5):
                self.check(bind(bound, text))
        self.check(bind(SIX, "x is a cat"), ("every", "x", ("every", "y", ("every", "z", ("every", "u", ("every", "v",
                   ("every", "w", ("is", "x", "cat"))))))))

    def test_letters_are_bound_in_their_bracket_alone(self):
        self.check("every x ( absurd ) and every cat is a dog",
                   both(("every", "x", D), ("every", "x", soif(("is", "x", "cat"), ("is", "x", "dog")))))
        self.check("every x ( ( every cat is a dog ) and x is a cat )", ("every", "x", both(
            ("every", "y", soif(("is", "y", "cat"), ("is", "y", "dog"))), ("is", "x", "cat"))))


class Refusals(unittest.TestCase):
    def test_the_first_two_by_their_texts(self):
        for text in ("every cat sees some dog", "no cat sees every dog", "absurd unless Ann is a cat unless Bob is a dog if absurd",
                     "Bob is a dog or Ann is a cat and absurd or Ann is Tom"):
            told = readings(FULL, text)
            self.assertGreater(len(told), 1)
            self.assertEqual(list(told), sorted(told, key=show_form))
            self.assertEqual(len({show_form(form) for form in told}), len(told))
            with self.assertRaises(TwoReadings) as caught:
                read_sentence(FULL, text)
            self.assertEqual((caught.exception.one, caught.exception.other), (told[0], told[1]))

    def test_none(self):
        for text in ("", "Ann", "every cat", "Ann is a bee"):
            with self.assertRaises(NoSentence):
                read_sentence(FULL, text)

    def test_what_is_no_text(self):
        for thing in (None, 7, True, (), ("absurd",), ["absurd"], b"absurd"):
            self.assertEqual(readings(FULL, thing), ())
            with self.assertRaises(NoSentence):
                read_sentence(FULL, thing)


class WrittenAndRead(unittest.TestCase):
    def alone(self, form):
        self.assertEqual(readings(FULL, show_form(form)), (form,))
        self.assertEqual(read_sentence(FULL, show_form(form)), form)

    def grown(self, chance, deep, bound):
        terms = FULL[0] + bound
        if deep == 1 or chance.random() < 0.05:
            def total():
                kinds = sorted(chance.sample(FULL[1], chance.randrange(4)))
                return (tuple((word, chance.choice((1, 2, 10))) for word in kinds), chance.choice((0, 0, 1, 20)))
            return chance.choice((
                ("is", chance.choice(terms), chance.choice(FULL[1])), ("same", chance.choice(terms), chance.choice(terms)),
                ("does", chance.choice(FULL[2]), chance.choice(terms), chance.choice(terms)), ("least", total(), total()),
                ("false",),
            ))
        word = chance.choice(("not", "and", "or", "if", "every", "some"))
        if word == "not":
            return ("not", self.grown(chance, deep - 1, bound))
        if word in ("every", "some"):
            letter = chance.choice(("x", "y", "z", "u", "v", "w", "x1", "z9"))
            return (word, letter, self.grown(chance, deep - 1, bound + (letter,)))
        return (word, self.grown(chance, deep - 1, bound), self.grown(chance, deep - 1, bound))

    def test_each_form_that_is_written_is_read_to_that_form_alone(self):
        chance = random.Random(5)
        most = 0
        for _ in range(200):
            form = self.grown(chance, chance.randrange(1, 9), ())
            if len(parts_of(form)) <= 120:
                most = max(most, len(parts_of(form)))
                self.alone(form)
        self.assertGreater(most, 60)

    def test_twelve_within_one_another(self):
        chance = random.Random(6)
        self.alone(deep_form(12))
        for word in ("not", "every", "some"):
            form = A
            for _ in range(11):
                form = ("not", form) if word == "not" else (word, "x", form)
            self.alone(form)
        for word in ("and", "or", "if"):
            left = right = A
            for _ in range(11):
                left, right = (word, left, B), (word, B, right)
            self.alone(left)
            self.alone(right)
        for _ in range(20):
            form = self.grown(chance, 12, ())
            if len(parts_of(form)) <= 300:
                self.alone(form)

    def test_120_parts(self):
        self.alone(("not", wide_form(119)))
        self.assertEqual(len(parts_of(("not", wide_form(119)))), 120)


if __name__ == "__main__":
    unittest.main()

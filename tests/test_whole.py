"""[1], [2], [3], over the whole program: its interface, what is told handed in again, refusals, and what is let by."""

import copy
import importlib
import inspect
import os
import pathlib
import random
import subprocess
import sys
import unittest

from linecourt import errors
from linecourt.against import against
from linecourt.arguments import is_argument, names_at, shown, supposed_at
from linecourt.argumenttexts import read_argument, show_argument
from linecourt.checker import is_right, lets_by
from linecourt.clerk import by_rule, reached
from linecourt.court import court_word
from linecourt.desk import Court
from linecourt.errors import CourtError, Lacks, NoJoin, NoOrder, NoSentence, NoText, NoTurn, TooGreat, Twice, TwoReadings
from linecourt.filling import written_out
from linecourt.forms import free_letters, is_form, is_of
from linecourt.formtexts import show_form
from linecourt.joining import joined
from linecourt.known import known_from
from linecourt.least import least_givens
from linecourt.meanings import in_place, world_with
from linecourt.needed import needed, thinned
from linecourt.orders import renumbered
from linecourt.sentences import read_sentence, readings
from linecourt.truths import holds
from linecourt.turning import out_of_contrary, to_contrary
from linecourt.worlds import is_world, worlds_of
from tests.arguing import MEANINGS, bent_argument, random_argument, unsound_lines
from tests.making import FALSE, NAMES, SMALL, clearly, given, random_form, supposed
from tests.test_filling import with_gaps

BEYOND = "beyond the bound"
CAT, DOG, BOB = ("is", "Ann", "cat"), ("is", "Ann", "dog"), ("is", "Bob", "cat")
# All that the interface lists: the module, the name, and what is handed in.
INTERFACE = """
words is_name thing
words is_kind thing
words is_letter thing
forms is_form thing
forms parts_of form
forms free_letters form
forms names_of form
forms put_for form x name
forms is_of vocabulary form
forms is_vocabulary thing
worlds is_world vocabulary thing
worlds worlds_of vocabulary size
worlds how_many vocabulary size
truths holds world form
truths count_of world total
formtexts show_form form
sentences readings vocabulary text
sentences read_sentence vocabulary text
lines box_of lines i
lines openers_at lines k
lines open_to lines k
lines told_by lines i k
arguments is_argument thing
arguments supposed_at argument k
arguments names_at argument k
arguments shown argument
rules follows word form forms name=None
boxrules boxed argument k
counts counted word form forms
sums summed form forms times
sums sum_of totals
checker is_right argument k earlier=None
checker lets_by thing earlier=None
known known_from names forms
clerk reached names forms goal deep=4
clerk by_rule argument k
filling written_out argument earlier=None
against against argument k size
court court_word argument earlier=None
needed needed argument
needed thinned argument
least least_givens names forms goal
joining joined one other k
orders renumbered argument order
turning to_contrary argument
turning out_of_contrary argument
meanings unfolded meanings form
meanings in_place argument
meanings world_with world meanings
argumenttexts show_argument argument
argumenttexts read_argument text
"""
METHODS = {"keep": "self name text", "word": "self text", "written": "self text", "kept": "self"}
REFUSALS = (NoSentence, TwoReadings, NoJoin, NoOrder, NoTurn, Twice, NoText, Lacks, TooGreat)


def taken(function):
    """What a function takes, as the interface writes it."""
    return " ".join(str(one) for one in inspect.signature(function).parameters.values())


def is_plain(thing):
    """Whether a thing is a text, a whole number, a truth, None, or a tuple of these."""
    if type(thing) is tuple:
        return all(is_plain(piece) for piece in thing)
    return thing is None or type(thing) in (str, int, bool)


class Interface(unittest.TestCase):
    def test_functions(self):
        for row in INTERFACE.strip().split("\n"):
            module, name, *things = row.split()
            function = getattr(importlib.import_module("linecourt." + module), name)
            self.assertTrue(inspect.isfunction(function), row)
            self.assertEqual(function.__module__, "linecourt." + module)
            self.assertEqual(taken(function), " ".join(things), row)

    def test_the_court(self):
        self.assertEqual(taken(Court), "")
        for name, things in METHODS.items():
            # In the class itself, not in one above.
            self.assertEqual(taken(vars(Court)[name]), things)

    def test_refusals(self):
        self.assertEqual(CourtError.__bases__, (ValueError,))
        for refusal in REFUSALS:
            self.assertEqual(refusal.__bases__, (CourtError,))
        told = [worth for worth in vars(errors).values() if inspect.isclass(worth)]
        self.assertEqual(set(told), {CourtError, *REFUSALS})


class Asking(unittest.TestCase):
    def ask(self, function, *things):
        """What a function tells, or its refusal; the same when asked once more, nothing handed in being changed."""
        before = copy.deepcopy(things)
        told = [self.told_once(function, things) for _ in range(2)]
        self.assertEqual(things, before)
        self.assertEqual(told[0], told[1], (function, things))
        self.assertTrue(is_plain(told[0]), (function, told[0]))
        return told[0]

    def told_once(self, function, things):
        try:
            return function(*things)
        except CourtError as refusal:
            self.assertEqual([type(refusal) is one for one in REFUSALS].count(True), 1)
            self.assertEqual([isinstance(refusal, one) for one in REFUSALS].count(True), 1)
            fields = [getattr(refusal, field) for field in ("one", "other", "row", "line", "many", "most") if hasattr(refusal, field)]
            return (type(refusal).__name__, *fields)


class Refusals(Asking):
    """Each function that refuses: just what it is told to refuse with."""

    ONE = (SMALL, (), (given(CAT), (0, CAT, ("again", 1))))
    BAD = (SMALL, (), (given(CAT), (0, DOG, ("again", 1))))
    FORMS = tuple(("does", "sees", f"N{sign}", f"N{other}") for sign in "abcdefghijklmno" for other in "abcdefghijklmno")

    def test_each(self):
        text = show_argument(self.BAD)
        court = Court()
        court.keep("one", show_argument(self.ONE))
        great = ("TooGreat", 225, 200)
        for wanted, function, *things in (
                (("NoSentence",), read_sentence, SMALL, "Ann is"),
                (("TwoReadings", ("and", ("not", FALSE), FALSE), ("not", ("and", FALSE, FALSE))), read_sentence, SMALL, "not absurd and absurd"),
                (great, known_from, NAMES, self.FORMS), (great, reached, NAMES, self.FORMS, CAT), (great, least_givens, NAMES, self.FORMS, CAT),
                (("Lacks", 2), written_out, self.BAD), (("Lacks", 0), least_givens, NAMES, (CAT,), DOG),
                (("TooGreat", 8 + 1024 + 9 * 2 ** 15, 4096), against, self.BAD, 2, 3), (("NoJoin",), joined, self.ONE, self.ONE, 2),
                (("NoOrder",), renumbered, self.ONE, (2, 1)), (("NoTurn",), out_of_contrary, self.ONE), (("NoText", 1), read_argument, "names\nkind"),
                (("NoText", 0), court.keep, "one", ""), (("Twice",), court.keep, "one", text), (("Lacks", 2), court.keep, "two", text),
                (("NoText", 0), court.word, None), (("NoText", 0), court.written, "x"), (("Lacks", 2), court.written, text)):
            self.assertEqual(self.ask(function, *things), wanted)
        self.assertEqual(court.kept(), ("one",))

    def test_what_tells_no_refusal(self):
        # The court's word is told of what the clerk refuses.
        self.assertEqual(self.ask(court_word, self.BAD)[:2], ("refused", 2))
        lines = tuple(given(form) for form in (("every", "x", ("every", "y", ("every", "z", ("does", "sees", "x", "y")))), CAT))
        self.assertEqual(self.ask(court_word, (SMALL, (), lines + (clearly(0, DOG),)))[:2], ("refused", 3))


class HandedInAgain(Asking):
    def look(self, argument, earlier=()):
        """What an argument that is let by is made to, each handed in again; all of them are told."""
        self.assertIs(self.ask(lets_by, argument, earlier), True, argument)
        made = [argument, self.ask(thinned, argument), self.ask(to_contrary, argument), self.ask(in_place, argument)]
        made.append(self.ask(out_of_contrary, made[2]))
        self.assertEqual(made[-1], argument)
        made.append(self.ask(read_argument, self.ask(show_argument, argument)))
        self.assertEqual(made[-1], argument)
        made.append(self.ask(written_out, argument)[0])
        made.append(self.ask(court_word, argument)[1])
        made.append(self.ask(renumbered, argument, tuple(range(1, len(argument[2]) + 1))))
        for one in made:
            self.assertIs(self.ask(is_argument, one), True)
            self.assertIs(self.ask(lets_by, one), True)
        return made

    def joined_ones(self, argument):
        """The argument joined to one that shows just what it shows, and to others."""
        form = argument[2][-1][1]
        other = (SMALL, argument[1], (given(BOB), given(form), (0, ("and", form, BOB), ("both", 2, 1))))
        return [self.ask(joined, argument, other, 2), self.ask(joined, (SMALL, argument[1], (given(form),)), other, 2)]

    def test_arguments(self):
        chance = random.Random(2)
        for _ in range(15):
            argument = random_argument(chance, 9)
            for one in self.look(argument)[:4]:
                for other in self.joined_ones(one):
                    self.assertEqual(self.ask(shown, other)[1], ("and", one[2][-1][1], BOB))
                    self.look(other)

    def test_made_of_one_another_again_and_again(self):
        chance = random.Random(20)
        for _ in range(12):
            argument = random_argument(chance, 5)
            form = argument[2][-1][1]
            for _ in range(4):
                argument = chance.choice(self.look(argument) + self.joined_ones(argument)[:1])
                if form != argument[2][-1][1]:
                    argument = argument[:2] + (argument[2] + ((0, form, ("left", len(argument[2]))),),)
            self.assertEqual(unsound_lines(argument), [])

    def test_what_is_written_out(self):
        chance = random.Random(21)
        told = {"let by": 0, "refused": 0}
        for _ in range(60):
            argument = with_gaps(chance, random_argument(chance, 8))
            if chance.random() < 0.3:
                argument = argument[:2] + (argument[2] + (clearly(0, random_form(chance, 3)),),)
            word = self.ask(court_word, argument)
            told[word[0]] += 1
            if word[0] == "let by":
                self.look(word[1])
            else:
                self.world(argument, word[1], word[2])
        self.assertGreater(min(told.values()), 10, told)

    def world(self, argument, k, world):
        """A world against a line, looked at with what else tells of worlds."""
        self.assertIs(self.ask(is_right, argument, k), False)
        if world == BEYOND:
            return
        names = tuple(sorted(self.ask(names_at, argument, k)))
        self.assertIs(self.ask(is_world, (names,) + SMALL[1:], world), True)
        self.assertIn(world, self.ask(worlds_of, (names,) + SMALL[1:], world[0]))
        wide = self.ask(world_with, world, argument[1])
        self.assertIs(self.ask(holds, wide, argument[2][k - 1][1]), False)
        for form in self.ask(supposed_at, argument, k)[:-1]:
            self.assertIs(self.ask(holds, wide, form), True)

    def test_forms(self):
        chance = random.Random(22)
        for _ in range(60):
            form = random_form(chance, 5)
            self.assertEqual(self.ask(readings, SMALL, self.ask(show_form, form)), (form,))
            for one in self.ask(known_from, NAMES, (form, random_form(chance, 4))):
                self.assertTrue(is_form(one) and is_of(SMALL, one) and not free_letters(one))
                self.assertIs(self.ask(reached, NAMES, (form, one), one), True)
                self.assertEqual(self.ask(least_givens, NAMES, (one, one), one), () if reached(NAMES, (), one) else (0,))

    def test_readings_that_are_two(self):
        told = self.ask(read_sentence, SMALL, "every cat sees some dog unless Ann is Bob")
        self.assertEqual(told[0], "TwoReadings")
        for form in told[1:]:
            self.assertEqual(self.ask(read_sentence, SMALL, self.ask(show_form, form)), form)

    def test_small_reasons(self):
        argument = (SMALL, (), (given(CAT), given(("if", CAT, DOG)), (0, DOG, ("by", (1, 2)))))
        reason = self.ask(by_rule, argument, 3)
        self.assertEqual(reason, ("then", 2, 1))
        self.assertIs(self.ask(is_right, argument[:2] + (argument[2][:2] + ((0, DOG, reason),),), 3), True)

    def test_earlier_ones(self):
        chance = random.Random(23)
        earlier, court = (), Court()
        for name in "abcdefgh":
            argument = with_gaps(chance, random_argument(chance, 6, (), earlier, (CAT, ("if", CAT, DOG))))
            word = self.ask(court_word, argument, earlier)
            self.assertEqual(self.ask(court.word, show_argument(argument)), word)
            if word[0] == "let by":
                earlier += ((name, word[1]),)
                self.assertIsNone(court.keep(name, self.ask(court.written, show_argument(argument))))
        self.assertGreater(len(earlier), 2)


class NothingElse(unittest.TestCase):
    """[2]: nothing hangs on a clock, chance or files."""

    SCRIPT = """
import random
from linecourt.court import court_word
from linecourt.desk import Court
from linecourt.argumenttexts import show_argument
from linecourt.sentences import readings
from tests.arguing import random_argument
from tests.making import SMALL
from tests.test_filling import with_gaps
chance = random.Random(5)
for _ in range(25):
    argument = with_gaps(chance, random_argument(chance, 8))
    print(court_word(argument))
print(readings(SMALL, "Ann is a cat and Bob is a dog or absurd unless every cat sees some dog"))
"""

    def run_with(self, seed):
        root = str(pathlib.Path(__file__).resolve().parent.parent)
        around = {**os.environ, "PYTHONHASHSEED": seed, "PYTHONPATH": root, "PYTHONDONTWRITEBYTECODE": "1"}
        return subprocess.run([sys.executable, "-c", self.SCRIPT], env=around, cwd=root, capture_output=True, check=True, text=True).stdout

    def test_whatever_the_order_of_sets(self):
        told = self.run_with("1")
        self.assertGreater(len(told), 1000)
        self.assertEqual(self.run_with("2"), told)


class Promise(unittest.TestCase):
    """[3]: each line of what is let by holds wherever the givens and what is supposed at the line do."""

    def test_whoever_wrote_it(self):
        chance = random.Random(3)
        told = {True: 0, False: 0}
        for _ in range(250):
            argument = random_argument(chance, 9)
            for _ in range(chance.randrange(1, 3)):
                argument = bent_argument(chance, argument)
            let = lets_by(argument)
            told[let] += 1
            if let:
                self.assertEqual(unsound_lines(argument), [], argument)
        self.assertGreater(min(told.values()), 10, told)

    def test_of_what_is_made_of_others(self):
        chance = random.Random(33)
        for _ in range(12):
            argument = random_argument(chance, 9)
            form = argument[2][-1][1]
            other = random_argument(chance, 9, argument[1], givens=(form, CAT))
            made = [thinned(argument), to_contrary(argument), in_place(argument)]
            if other[2][-1][2] != ("given",):
                made.append(joined(argument, other, 1))
            for one in made:
                self.assertEqual(unsound_lines(one), [], one)
            self.assertEqual([shown(one) for one in made[1:2]], [shown(argument)])

    def test_lines_that_are_not_needed_may_go(self):
        chance = random.Random(34)
        for _ in range(40):
            argument = random_argument(chance, 12)
            thin = thinned(argument)
            self.assertEqual(len(thin[2]), len(needed(argument)))
            self.assertEqual(shown(thin)[1], shown(argument)[1])
            self.assertTrue(set(shown(thin)[0]) <= set(shown(argument)[0]))

    def test_a_refused_line_has_a_world_against_it_or_none_is_told(self):
        argument = (SMALL, MEANINGS, (
            given(("is", "Ann", "pet")), supposed(1, ("not", CAT)), clearly(1, ("is", "Bob", "dog")), clearly(0, ("if", ("not", CAT), DOG))))
        word = court_word(argument)
        self.assertEqual(word, ("refused", 3, (2, (("Ann", 0), ("Bob", 1)), (("cat", ()), ("dog", (0,))), (("sees", ()),))))
        self.assertEqual(against(argument, 3, 1), BEYOND)
        self.assertEqual(against(argument, 3, 2), word[2])


class Story(unittest.TestCase):
    """[1]: from sentences to the court's word."""

    HEAD = "names Ann Tom\nkinds bird cat dog\ndoings sees\nmeaning hunter x1 : x1 is a cat or x1 is a dog\n"

    def test_it(self):
        court = Court()
        court.keep("seen", self.HEAD + "\n".join((
            "1 given : Tom is a cat", "2 given : every x ( if x is a hunter then Ann sees x )", "3 clearly : Tom is a cat or Tom is a dog",
            "4 by 3 : Tom is a hunter", "5 clearly : Ann sees Tom")))
        told = self.HEAD + "\n".join((
            "1 given : some cat is not a bird", "2 given : every x ( if x is a hunter then Ann sees x )", "3 given : every bird is not a cat",
            "4 | called Bo 1 : Bo is a cat and Bo is not a bird", "5 | by 4 : Bo is a cat", "6 | clearly : Bo is a cat or Bo is a dog",
            "7 | by 6 : Bo is a hunter", "8 | clearly : Bo is a cat and Ann sees Bo", "9 | by 8 : Ann sees some cat",
            "10 forsome 4 : Ann sees some cat"))
        word = court.word(told)
        self.assertEqual(word[0], "let by")
        self.assertTrue(lets_by(read_argument(court.written(told))))
        self.assertEqual(shown(word[1])[1], ("some", "x", ("and", ("is", "x", "cat"), ("does", "sees", "Ann", "x"))))
        # Without the kept one, and with it.
        lean = self.HEAD + "\n".join((
            "1 given : Tom is a cat", "2 given : every x ( if x is a hunter then Ann sees x )", "3 earlier seen 1 2 : Ann sees Tom",
            "4 one 1 : there are at least 1 cat", "5 sums 4 times 2 : 2 cat >= 2"))
        self.assertEqual(court.word(lean)[0], "let by")
        self.assertEqual(Court().word(lean), ("refused", 3, BEYOND))

    def test_refused(self):
        # Not every hunter is a cat; of three kinds there are too many worlds to find it out.
        told = self.HEAD + "1 given : Tom is a hunter\n2 clearly : Tom is a cat"
        self.assertEqual(Court().word(told), ("refused", 2, BEYOND))
        less = told.replace("bird ", "")
        self.assertEqual(Court().word(less), ("refused", 2, (
            1, (("Ann", 0), ("Tom", 0)), (("cat", ()), ("dog", (0,))), (("sees", ()),))))


if __name__ == "__main__":
    unittest.main()

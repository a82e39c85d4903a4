"""Arguments made by chance, line by line, so that each line is right; and arguments bent at one place."""

from linecourt.errors import TooGreat
from tests.making import FALSE, NAMES, SMALL, SUMS, Worlds, bends, free, put, random_form, ways_to_put
from tests.slowcourt import slow_counted, slow_in_place, slow_turned, slow_unfolded
from tests.test_lines import slow_open_to, slow_openers, slow_told_by

MEANINGS = (
    ("pet", "x7", ("or", ("is", "x7", "cat"), ("is", "x7", "dog"))),
    ("seer", "y7", ("some", "z7", ("and", ("does", "sees", "y7", "z7"), ("is", "z7", "pet")))),
    ("wise", "y8", ("if", ("is", "y8", "pet"), ("and", ("is", "y8", "seer"), ("is", "Bob", "pet")))),
)
NEW_NAMES = ("Yon", "Zed")
COUNTED = ("asmany", "one", "two", "someof", "none", "nomore", "apart", "cover")
SMALL_WORDS = ("not", "and", "or", "if", "every", "some", "is", "does", "same", "least")


def every_if(x, one, other):
    return ("every", x, ("if", one, other))


# Givens from which much follows.
GIVENS = (
    every_if("x", ("is", "x", "cat"), ("is", "x", "dog")), every_if("y", ("is", "y", "dog"), ("is", "y", "dog")),
    every_if("x", ("is", "x", "cat"), ("not", ("is", "x", "dog"))),
    every_if("z", ("or", ("is", "z", "cat"), ("is", "z", "dog")), ("is", "z", "dog")),
    every_if("z", ("is", "z", "dog"), ("or", ("is", "z", "cat"), ("is", "z", "cat"))),
    ("every", "u", ("not", ("is", "u", "cat"))), ("some", "x", ("is", "x", "cat")),
    ("some", "x", ("and", ("is", "x", "cat"), ("does", "sees", "x", "Ann"))),
    ("same", "Ann", "Bob"), ("not", ("same", "Ann", "Bob")), ("is", "Ann", "cat"), ("is", "Bob", "cat"),
    ("or", ("is", "Ann", "cat"), ("is", "Ann", "dog")), ("not", ("least", ((("cat", 1),), 0), ((), 1))),
    ("least", ((("cat", 1),), 0), ((), 1)), ("least", ((), 0), ((("dog", 1),), 0)), ("least", ((("dog", 1),), 0), ((("cat", 1),), 0)),
    ("if", ("is", "Ann", "cat"), FALSE), ("and", ("is", "Ann", "dog"), ("not", ("is", "Ann", "dog"))),
    ("every", "x", ("some", "y", ("does", "sees", "x", "y"))), ("is", "Ann", "dog"), FALSE,
)
# Such from which together something follows.
GIVEN_SETS = (
    (("is", "Ann", "cat"), ("is", "Bob", "cat"), ("not", ("same", "Ann", "Bob"))),
    (GIVENS[2], GIVENS[3]), (("or", GIVENS[10], GIVENS[20]), GIVENS[0]), (GIVENS[0], GIVENS[10]), (GIVENS[9], GIVENS[8], GIVENS[10]),
)


def parts(form):
    return 1 + sum(parts(piece) for piece in form[1:] if isinstance(piece, tuple) and form[0] != "least")


class Maker:
    """Writes lines that are right, so long as it is asked to."""

    def __init__(self, chance, meanings=(), earlier=(), givens=None):
        self.chance = chance
        self.meanings = meanings
        self.earlier = earlier
        self.kinds = SMALL[1] + tuple(meaning[0] for meaning in meanings)
        if givens is None:
            several = chance.choice(GIVEN_SETS) if chance.random() < 0.4 else ()
            givens = several + tuple(self.given() for _ in range(chance.randrange(1, 4)))
        self.lines = [(0, form, ("given",)) for form in givens]
        self.free_names = list(NEW_NAMES)

    def given(self):
        return self.chance.choice(GIVENS) if self.chance.random() < 0.7 else self.form(3)

    def form(self, deep, terms=NAMES):
        return random_form(self.chance, deep, terms, SMALL_WORDS, self.kinds)

    def level(self):
        return self.lines[-1][0] if self.lines else 0

    def names(self, level):
        """The names of a line put behind all others, at a level."""
        lines = self.lines + [(level, FALSE, ("clearly",))]
        opened = [lines[i - 1][2] for i in slow_openers(lines, len(lines))]
        return NAMES + tuple(reason[1] for reason in opened if reason[0] != "supposed")

    def at_hand(self, level):
        """Line numbers and forms to which a line put behind all others, at a level, is open."""
        lines = self.lines + [(level, FALSE, ("clearly",))]
        return [(m, lines[m - 1][1]) for m in slow_open_to(lines, len(lines))]

    def add(self, level, form, reason):
        fits = not free(form) and all(name in self.names(level) or name not in repr(form) for name in NEW_NAMES)
        if fits and parts(form) <= 40:
            self.lines.append((level, form, reason))
            return True
        return False

    def open_box(self):
        level = self.chance.choice((self.level() + 1, max(1, self.level())))
        if level > 4:
            return
        hand = self.at_hand(level - 1)
        wholes = [(m, form) for m, form in hand if form[0] == "some"]
        # In the scope of the names there already; the opener's own name is put in by itself.
        sort = self.chance.random()
        if sort < 0.25 and self.free_names:
            name = self.free_names.pop()
            self.lines.append((level, ("same", name, name), ("any", name)))
        elif sort < 0.6 and self.free_names and wholes:
            m, whole = self.chance.choice(wholes)
            # At a level of its own, so that it stays open to what was at hand ahead of it.
            name = self.free_names.pop()
            self.lines.append((level, put(whole[2], whole[1], name), ("called", name, m)))
        else:
            inner = self.chance.choice([form for _, form in hand] or [FALSE])
            form = self.chance.choice((inner, ("not", inner), self.form(2, self.names(level - 1))))
            if form[0] != "not" and self.chance.random() < 0.3:
                ors = [whole for _, whole in hand if whole[0] == "or"]
                form = self.chance.choice(self.chance.choice(ors)[1:]) if ors else form
            self.add(level, form, ("supposed",))

    def close_box(self):
        level = self.level()
        if level == 0:
            return
        i = [i for i in slow_openers(self.lines, len(self.lines)) if self.lines[i - 1][0] == level][-1]
        opener, told = self.lines[i - 1], self.lines[-1][1]
        for form, reason in self.closings(i, opener, told, level - 1):
            if self.add(level - 1, form, reason):
                return
        m, form = self.chance.choice(self.at_hand(level - 1) or [(None, None)])
        if m:
            self.add(level - 1, form, ("again", m))

    def closings(self, i, opener, told, level):
        form, reason = opener[1:]
        if reason[0] == "called":
            yield told, ("forsome", i)
        if reason[0] == "any":
            # One that is bound nowhere within.
            letter = self.chance.choice([one for one in ("w", "w1", "u2", "v5") if f"'{one}'" not in repr(told)])
            yield ("every", letter, ways_to_put(told, reason[1], letter)[-1]), ("forany", i)
        if reason[0] == "supposed":
            lines = self.lines + [(level, told, ("clearly",))]
            pairs = [
                (m, n) for m, whole in self.at_hand(level) for n in range(1, len(lines))
                if whole[0] == "or" and whole[1] == form and slow_told_by(lines, n, len(lines))
                and lines[n - 1][1:] == (whole[2], ("supposed",)) and lines[slow_told_by(lines, n, len(lines)) - 1][1] == told]
            if pairs and self.chance.random() < 0.7:
                m, n = self.chance.choice(pairs)
                yield told, ("cases", m, i, n)
            if told == FALSE and form[0] == "not" and self.chance.random() < 0.6:
                yield form[1], ("contrary", i)
            if told == FALSE and self.chance.random() < 0.8:
                yield ("not", form), ("not", i)
            yield ("if", form, told), ("soif", i)

    def step(self):
        level = self.chance.choice((self.level(), self.level(), self.level(), self.chance.randrange(self.level() + 1)))
        sort = self.chance.random()
        if sort < 0.15:
            return self.whole_boxes()
        ways = list((self.ways_to_count if sort < 0.35 else self.ways_to_sum if sort < 0.4 else self.ways)(level))
        words = sorted({reason[0] for _, reason in ways})
        if words:
            word = self.chance.choice([word for word in ("absurd", "then") if word in words] or words)
            form, reason = self.chance.choice([way for way in ways if way[1][0] == word])
            self.add(level, form, reason)

    def whole_boxes(self):
        """Cases, or what is absurd, all at once."""
        level, at = self.level(), len(self.lines)
        m, form = self.chance.choice(self.at_hand(level) or [(0, FALSE)])
        if parts(form) > 15:
            return
        if form[0] == "or":
            other = ("or", form[2], form[1])
            self.lines += [
                (level + 1, form[1], ("supposed",)), (level + 1, other, ("orright", at + 1)), (level + 1, form[2], ("supposed",)),
                (level + 1, other, ("orleft", at + 3)), (level, other, ("cases", m, at + 1, at + 3))]
        elif m:
            self.lines += [(level + 1, ("not", form), ("supposed",)), (level + 1, FALSE, ("absurd", m, at + 1))]
            self.lines.append(self.chance.choice((
                (level, form, ("contrary", at + 1)), (level, ("not", ("not", form)), ("not", at + 1)))))

    def ways(self, level):
        """Forms that follow from what is at hand, with their reasons."""
        lines, names = self.at_hand(level), self.names(level)
        for m, form in self.chance.sample(lines, min(6, len(lines))):
            yield from self.ways_of_one(m, form, names)
            for n, other in lines:
                yield from self.ways_of_two(m, form, n, other)
        yield ("same", names[-1], names[-1]), ("itself",)
        for name, argument in self.earlier:
            givens = tuple(line[1] for line in argument[2] if line[2] == ("given",))
            numbers = tuple(next((m for m, form in lines if form == one), None) for one in givens)
            if None not in numbers:
                yield argument[2][-1][1], ("earlier", name, numbers)

    def ways_of_one(self, m, form, names):
        chance = self.chance
        any_form = self.form(2, names)
        yield form, ("again", m)
        if form[0] == "and":
            yield form[1], ("left", m)
            yield form[2], ("right", m)
        yield ("or", form, any_form), ("orleft", m)
        yield ("or", any_form, form), ("orright", m)
        if form == FALSE:
            yield any_form, ("nothing", m)
        name = chance.choice(names)
        if form[0] == "every":
            yield put(form[2], form[1], name), ("at", m, name)
        letter = chance.choice(("w", "w3"))
        if f"'{letter}'" not in repr(form):
            yield ("some", letter, chance.choice(ways_to_put(form, name, letter))), ("such", m, name)
        if self.meanings:
            yield slow_unfolded(self.meanings, form), ("meaning", m)
            # Not of the second one alone: its own letter would stand around a meaning's kind.
            yield slow_in_place(*chance.choice(self.meanings[::2]), form), ("meaning", m)
            for kind, x, inner in self.meanings:
                if form == put(inner, x, name):
                    yield ("is", name, kind), ("meaning", m)

    def ways_of_two(self, m, form, n, other):
        yield ("and", form, other), ("both", m, n)
        if form[0] == "if" and form[1] == other:
            yield form[2], ("then", m, n)
        if other == ("not", form):
            yield FALSE, ("absurd", m, n)
        if form[0] == "same" and form[1] in repr(other):
            yield self.chance.choice(ways_to_put(other, *form[1:])), ("put", m, n)

    def ways_to_count(self, level):
        lines = self.at_hand(level)
        forms = [("some", "y", ("is", "y", kind)) for kind in SMALL[1]]
        forms += [("every", "y", ("not", ("is", "y", kind))) for kind in SMALL[1]]
        kinds = [((kind, 1),) for kind in SMALL[1]] + [((kind, 2),) for kind in SMALL[1]] + [(("cat", 1), ("dog", 1))]
        sums = [(one, 0) for one in kinds] + [((), number) for number in range(3)]
        forms += [("least", one, other) for one in sums for other in sums]
        simple = [(m, form) for m, form in lines if form[0] in ("every", "is", "not", "least") and parts(form) <= 7]
        for m, one in simple:
            turned = slow_turned(one)
            if turned:
                yield turned, ("turned", m)
            for word in self.chance.sample(("asmany", "one", "someof", "none", "nomore", "cover"), 2):
                yield from (
                    (form, (word, m)) for form in forms if slow_counted(word, form, (one,), SMALL[1]))
        everies = [row for row in simple if row[1][0] == "every"]
        yield from (
            (form, ("apart", m, n)) for m, one in everies for n, other in everies for form in forms
            if slow_counted("apart", form, (one, other), SMALL[1]))
        things = [row for row in simple if row[1][0] == "is"]
        yield from (
            (("least", (((one[2], 1),), 0), ((), 2)), ("two", m, n, k))
            for m, one in things for n, other in things for k, form in simple
            if one[2] == other[2] and one[2] in SMALL[1] and form == ("not", ("same", one[1], other[1])))

    def ways_to_sum(self, level):
        chance, lines = self.chance, self.at_hand(level)
        counts = [row for row in lines if row[1][0] == "least"]
        picked = [chance.choice(counts) for _ in range(chance.randrange(3))] if counts else []
        times = tuple(chance.randrange(3) for _ in picked)
        sides = []
        for at in (1, 2):
            rows = [form[at] for (_, form), often in zip(picked, times) for _ in range(often)]
            more = chance.choice(SUMS) if chance.random() < 0.3 and at == 1 else ((), 0)
            count = {}
            for one in rows + [more]:
                for kind, often in one[0]:
                    count[kind] = count.get(kind, 0) + often
            sides.append((tuple(sorted(count.items())), sum(one[1] for one in rows + [more])))
        yield ("least", *sides), ("sums", tuple(m for m, _ in picked), times)

    def argument(self, many):
        """An argument of about so many lines."""
        for _ in range(many):
            act = self.chance.random()
            if act < 0.2:
                self.open_box()
            elif act < 0.4 and self.level():
                self.close_box()
            else:
                self.step()
        while self.level():
            ahead = len(self.lines)
            self.close_box()
            if len(self.lines) == ahead:
                self.lines.append((0, ("same", "Ann", "Ann"), ("itself",)))
        return (SMALL, self.meanings, tuple(self.lines))


def random_argument(chance, many=12, meanings=None, earlier=(), givens=None):
    told = chance.choice(((), MEANINGS)) if meanings is None else meanings
    return Maker(chance, told, earlier, givens).argument(many)


def bent_argument(chance, argument):
    """An argument with one line put otherwise: its level, form, reason, or a number or name of it."""
    vocabulary, meanings, lines = argument
    at = chance.randrange(len(lines))
    level, form, reason = lines[at]
    bend = chance.randrange(6)
    if bend == 0:
        level = max(0, level + chance.choice((-1, 1)))
    elif bend == 1:
        form = chance.choice(list(bends(form)))
    elif bend == 2:
        form = chance.choice(lines)[1]
    elif bend == 3:
        reason = chance.choice(lines)[2]
    else:
        reason = bent_reason(chance, reason, len(lines))
    line = (level, form, reason)
    if chance.random() < 0.1:
        return (vocabulary, meanings, lines[:at] + lines[at + 1:])
    if chance.random() < 0.1:
        return (vocabulary, meanings, lines[:at] + lines[at:at + 1] + lines[at:])
    return (vocabulary, meanings, lines[:at] + (line,) + lines[at + 1:])


def bent_reason(chance, reason, last):
    if len(reason) == 1:
        return chance.choice((("given",), ("itself",), ("supposed",), ("clearly",), ("again", chance.randrange(1, last + 1))))
    at = chance.randrange(1, len(reason))
    piece = reason[at]
    if isinstance(piece, int):
        piece = chance.randrange(1, last + 1)
    elif isinstance(piece, str):
        piece = chance.choice(NAMES + NEW_NAMES)
    elif piece:
        which = chance.randrange(len(piece))
        piece = piece[:which] + (chance.randrange(1, last + 1),) + piece[which + 1:]
    return reason[:at] + (piece,) + reason[at + 1:]


WORLDS = {}


def worlds_with(names):
    """The worlds of the small vocabulary and some names more."""
    if names not in WORLDS:
        WORLDS[names] = Worlds((tuple(sorted(NAMES + names)),) + SMALL[1:])
    return WORLDS[names]


def renamed(form, names):
    """A form, its names being others."""
    return tuple(
        piece if form[0] == "least" else renamed(piece, names) if isinstance(piece, tuple) else names.get(piece, piece) for piece in form)


def unsound_lines(argument):
    """The lines of an argument that don't hold in some world that keeps the givens and what is supposed there.

    Lines in the boxes of more than two names are passed over: their worlds are too many.
    """
    vocabulary, meanings, lines = argument
    givens = [line[1] for line in lines if line[2] == ("given",)]
    told = []
    for k, line in enumerate(lines, 1):
        opened = [lines[i - 1] for i in slow_openers(lines, k)]
        names = [one[2][1] for one in opened if one[2][0] != "supposed"]
        if len(names) > len(NEW_NAMES):
            continue
        # The worlds are the same whatever the names: so those of few names are made, once.
        new = dict(zip(names, NEW_NAMES))
        form, *forms = [
            renamed(slow_unfolded(meanings, form), new) for form in [line[1]] + givens + [one[1] for one in opened]]
        if not worlds_with(NEW_NAMES[:len(names)]).follows(form, forms):
            told.append(k)
    return told


def slow_known(names, forms):
    known = list(dict.fromkeys(forms))
    for _ in range(3):
        new = []
        for form in known:
            if form[0] == "and":
                new += form[1:]
            if form[0] == "if" and form[1] in known:
                new.append(form[2])
            if form[0] == "every":
                new += [put(form[2], form[1], name) for name in names]
        if any(("not", form) in known for form in known):
            new.append(FALSE)
        known = list(dict.fromkeys(known + new))
        if len(known) > 200:
            raise TooGreat(len(known), 200)
    return tuple(known)


def slow_reached(names, forms, goal, deep=4):
    known = slow_known(names, forms)
    if goal in known or FALSE in known:
        return True
    if deep == 0:
        return False
    word = goal[0]
    if word == "and":
        return slow_reached(names, forms, goal[1], deep - 1) and slow_reached(names, forms, goal[2], deep - 1)
    if word == "or":
        return slow_reached(names, forms, goal[1], deep - 1) or slow_reached(names, forms, goal[2], deep - 1)
    if word == "some":
        return any(slow_reached(names, forms, put(goal[2], goal[1], name), deep - 1) for name in names)
    if word == "if":
        return slow_reached(names, forms + (goal[1],), goal[2], deep - 1)
    if word == "not":
        return slow_reached(names, forms + (goal[1],), FALSE, deep - 1)
    if word == "every":
        new = next(name for name in map("Q{}".format, "abcdefghij") if name not in repr((names, forms, goal)))
        return slow_reached(names + (new,), forms + (("same", new, new),), put(goal[2], goal[1], new), deep - 1)
    return False

"""Forms made by chance, forms bent at one place, and the worlds in which what is told is asked."""

from functools import reduce
from operator import and_, or_

from linecourt.worlds import worlds_of

NAMES, KINDS, DOINGS = ("Ann", "Bob"), ("cat", "dog"), ("sees",)
SMALL = (NAMES, KINDS, DOINGS)
FALSE = ("false",)
LETTERS = ("x", "y", "x1")
PAIRED = ("and", "or", "if")
BINDING = ("every", "some")


def total(number, **times):
    """A sum, by its kinds: total(2, cat=1) is cat + 2."""
    return (tuple(sorted(times.items())), number)


SUMS = (total(0), total(1), total(2), total(0, cat=1), total(1, cat=1), total(0, dog=1), total(0, cat=1, dog=1), total(3, dog=2))


def random_form(chance, deep, terms=NAMES, words=None, kinds=KINDS):
    """A form of at most so many forms within one another; closed where the terms are names."""
    if deep <= 1:
        word = chance.choice(("is", "is", "does", "same", "least", "false"))
    else:
        word = chance.choice(words or ("not", "and", "or", "if", "every", "some", "is", "does"))
    if word == "is":
        return ("is", chance.choice(terms), chance.choice(kinds))
    if word == "does":
        return ("does", chance.choice(DOINGS), chance.choice(terms), chance.choice(terms))
    if word == "same":
        return ("same", chance.choice(terms), chance.choice(terms))
    if word == "least":
        return ("least", chance.choice(SUMS), chance.choice(SUMS))
    if word == "false":
        return FALSE
    if word == "not":
        return ("not", random_form(chance, deep - 1, terms, words, kinds))
    if word in PAIRED:
        return (word,) + tuple(random_form(chance, deep - 1, terms, words, kinds) for _ in range(2))
    letter = chance.choice(LETTERS)
    return (word, letter, random_form(chance, deep - 1, terms + (letter,), words, kinds))


def bent_sums(one):
    """Sums unlike a sum at one place."""
    parts, number = one
    yield (parts, number + 1)
    if number:
        yield (parts, number - 1)
    for at, (kind, times) in enumerate(parts):
        yield (parts[:at] + ((kind, times + 1),) + parts[at + 1:], number)
        yield (parts[:at] + parts[at + 1:], number)
    for kind in KINDS:
        if kind not in dict(parts):
            yield (tuple(sorted(parts + ((kind, 1),))), number)


def bent_pieces(form, at):
    """What else might stand at a place of a form."""
    piece = form[at]
    if isinstance(piece, tuple) and form[0] == "least":
        yield from bent_sums(piece)
    elif isinstance(piece, tuple):
        yield from bends(piece)
    else:
        for words in (NAMES + LETTERS + ("Cat",), KINDS + ("cow",), DOINGS + ("likes",)):
            if piece in words:
                yield from (word for word in words if word != piece)


def bends(form):
    """Forms unlike a form: at one place another word, term, kind, letter or number, parts exchanged, a not more or less."""
    yield ("not", form)
    if form[0] == "not":
        yield form[1]
    for words in (PAIRED, BINDING):
        if form[0] in words:
            yield from ((word,) + form[1:] for word in words if word != form[0])
    if len(form) > 2 and form[0] != "is" and form[-1] != form[-2] and form[0] not in BINDING:
        yield form[:-2] + (form[-1], form[-2])
    for at in range(1, len(form)):
        yield from (form[:at] + (piece,) + form[at + 1:] for piece in bent_pieces(form, at))


def put(form, x, name):
    """A name put for a letter wherever it is free."""
    if form[0] in BINDING and form[1] == x:
        return form
    if form[0] in ("is", "does", "same"):
        return form[:1] + tuple(name if piece == x else piece for piece in form[1:])
    if form[0] == "least":
        return form
    return form[:1] + tuple(put(piece, x, name) if isinstance(piece, tuple) else piece for piece in form[1:])


def ways_to_put(form, t, u):
    """All forms with a name u in the place of a name t at some of the places."""
    if form[0] == "least":
        return [form]
    told = [form[:1]]
    for piece in form[1:]:
        ways = ways_to_put(piece, t, u) if isinstance(piece, tuple) else [piece, u] if piece == t else [piece]
        told = [row + (way,) for row in told for way in ways]
    return told


def free(form, bound=()):
    """The letters that are free in a form."""
    if form[0] in BINDING:
        return free(form[2], bound + (form[1],))
    told = {piece for piece in form[1:] if piece in LETTERS and piece not in bound}
    return told.union(*(free(piece, bound) for piece in form[1:] if isinstance(piece, tuple) and form[0] != "least"))


def is_closed_small(forms):
    """Whether forms are closed, and have no word that bends bring in from outside of the small vocabulary."""
    return not any(free(form) for form in forms) and not any(word in repr(forms) for word in ("Cat", "cow", "likes"))


def given(form):
    return (0, form, ("given",))


def supposed(level, form):
    return (level, form, ("supposed",))


def clearly(level, form):
    return (level, form, ("clearly",))


class Worlds:
    """All worlds of one and of two things of a vocabulary, asked all at once: one bit for each world."""

    def __init__(self, vocabulary):
        self.worlds = {size: worlds_of(vocabulary, size) for size in (1, 2)}
        assert all(self.worlds.values()), "too many worlds"
        self.all = {size: (1 << len(worlds)) - 1 for size, worlds in self.worlds.items()}
        self.found = {}

    def simple(self, form, size, places):
        """A bit for each world of a size in which a form without forms in it holds."""
        told = form[:1] + tuple(places.get(piece, piece) if isinstance(piece, str) else piece for piece in form[1:])
        if (told, size) not in self.found:
            bits = (self.simply_holds(told, world) << at for at, world in enumerate(self.worlds[size]))
            self.found[told, size] = sum(bits)
        return self.found[told, size]

    def simply_holds(self, form, world):
        many, names, kinds, doings = world
        names, kinds, doings = dict(names), dict(kinds), dict(doings)
        if form[0] == "is":
            return names.get(form[1], form[1]) in kinds[form[2]]
        if form[0] == "same":
            return names.get(form[1], form[1]) == names.get(form[2], form[2])
        if form[0] == "does":
            return (names.get(form[2], form[2]), names.get(form[3], form[3])) in doings[form[1]]
        if form[0] == "least":
            one, other = (number + sum(times * len(kinds[kind]) for kind, times in parts) for parts, number in form[1:])
            return one >= other
        return False

    def bits(self, form, size, places):
        """A bit for each world of a size in which a form holds, its letters standing for things."""
        word = form[0]
        if word == "not":
            return self.all[size] & ~self.bits(form[1], size, places)
        if word in BINDING:
            told = [self.bits(form[2], size, {**places, form[1]: thing}) for thing in range(size)]
            return reduce(and_ if word == "every" else or_, told)
        if word not in PAIRED:
            return self.simple(form, size, places)
        one, other = (self.bits(piece, size, places) for piece in form[1:])
        return {"and": one & other, "or": one | other, "if": self.all[size] & ~one | other}[word]

    def holds(self, form):
        """The bits of all worlds in which a closed form holds."""
        return {size: self.bits(form, size, {}) for size in (1, 2)}

    def follows(self, form, forms):
        """Whether a form holds in each of the worlds in which all forms hold."""
        for size in (1, 2):
            kept = self.all[size]
            for one in forms:
                kept &= self.bits(one, size, {})
            if kept & ~self.bits(form, size, {}):
                return False
        return True


SMALL_WORLDS = Worlds(SMALL)

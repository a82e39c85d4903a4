"""Forms: what sentences are read to, and the vocabularies they are of."""

from linecourt.wholes import is_whole_from, rises
from linecourt.words import is_kind, is_letter, is_name, is_term

# What stands behind each word of a form: t a term, k a kind, d a doing, s a sum, x a letter, F a form.
SHAPES = {
    "is": "tk",
    "does": "dtt",
    "same": "tt",
    "least": "ss",
    "false": "",
    "not": "F",
    "and": "FF",
    "or": "FF",
    "if": "FF",
    "every": "xF",
    "some": "xF",
}

FALSE = ("false",)


def is_share(thing):
    """Whether a thing is a part of a sum: a kind, and how often it counts."""
    if not isinstance(thing, tuple) or len(thing) != 2:
        return False
    return is_kind(thing[0]) and is_whole_from(thing[1], 1)


def is_sum(thing):
    """Whether a thing is a sum: parts, their kinds rising, and a number."""
    if not isinstance(thing, tuple) or len(thing) != 2:
        return False
    parts, number = thing
    if not isinstance(parts, tuple) or not all(is_share(part) for part in parts):
        return False
    return rises([kind for kind, times in parts]) and is_whole_from(number, 0)


def fits(place, thing):
    """Whether a thing may stand at a place of a form (see SHAPES)."""
    if place == "F":
        return is_form(thing)
    if place == "t":
        return is_term(thing)
    if place == "x":
        return is_letter(thing)
    if place == "s":
        return is_sum(thing)
    return is_kind(thing)


def is_form(thing):
    """Whether a thing is a form."""
    if not isinstance(thing, tuple) or not thing or not isinstance(thing[0], str):
        return False
    shape = SHAPES.get(thing[0])
    if shape is None or len(shape) != len(thing) - 1:
        return False
    return all(fits(place, piece) for place, piece in zip(shape, thing[1:]))


def pieces(form, wanted):
    """What stands at the wanted places of a form itself, not of the forms within it."""
    return [piece for place, piece in zip(SHAPES[form[0]], form[1:]) if place == wanted]


def parts_of(form):
    """The form itself, then the parts of its F, then those of its G."""
    told = [form]
    for inner in pieces(form, "F"):
        told.extend(parts_of(inner))
    return tuple(told)


def all_pieces(form, wanted):
    """What stands at the wanted places of a form and of all forms within it."""
    return [piece for part in parts_of(form) for piece in pieces(part, wanted)]


def free_letters(form):
    """The letters that are free in a form, rising."""
    free = [term for term in pieces(form, "t") if is_letter(term)]
    for inner in pieces(form, "F"):
        free.extend(free_letters(inner))
    bound = pieces(form, "x")
    return tuple(sorted({letter for letter in free if letter not in bound}))


def letters_of(form):
    """All letters that stand in a form, rising: those behind every and some, too."""
    terms = [term for term in all_pieces(form, "t") if is_letter(term)]
    return tuple(sorted(set(terms + all_pieces(form, "x"))))


def names_of(form):
    """The names that stand in a form, rising."""
    return tuple(sorted({term for term in all_pieces(form, "t") if is_name(term)}))


def counted_kinds(form):
    """The kinds that the sums of a form count, rising."""
    return tuple(sorted({kind for total in all_pieces(form, "s") for kind, times in total[0]}))


def kinds_of(form):
    """The kinds that stand in a form, rising: those of sums, too."""
    return tuple(sorted(set(all_pieces(form, "k")) | set(counted_kinds(form))))


def doings_of(form):
    """The doings that stand in a form, rising."""
    return tuple(sorted(set(all_pieces(form, "d"))))


def put_for(form, x, name):
    """The form with a name put for a letter, wherever that letter is free."""
    if x in pieces(form, "x"):
        return form
    put = [put_at(place, piece, x, name) for place, piece in zip(SHAPES[form[0]], form[1:])]
    return (form[0], *put)


def put_at(place, piece, x, name):
    """What stands at a place of a form, with a name put for a letter."""
    if place == "F":
        return put_for(piece, x, name)
    if place == "t" and piece == x:
        return name
    return piece


def called_anew(form, new):
    """The form with other names in the place of those that are to be called anew."""
    put = [called_anew_at(place, piece, new) for place, piece in zip(SHAPES[form[0]], form[1:])]
    return (form[0], *put)


def called_anew_at(place, piece, new):
    """What stands at a place of a form, with other names."""
    if place == "F":
        return called_anew(piece, new)
    return new.get(piece, piece) if place == "t" else piece


def is_case(whole, word, name, case):
    """Whether a form is every x F (or some x F, by the word), and the case of it F with the name for x."""
    return whole[0] == word and is_name(name) and put_for(whole[2], whole[1], name) == case


def is_row_of_names(thing):
    """Whether a thing is a rising tuple of names."""
    return isinstance(thing, tuple) and all(is_name(word) for word in thing) and rises(thing)


def is_row_of_kinds(thing):
    """Whether a thing is a rising tuple of kinds, or of doings."""
    return isinstance(thing, tuple) and all(is_kind(word) for word in thing) and rises(thing)


def is_vocabulary(thing):
    """Whether a thing is a vocabulary: names, kinds and doings, no text both of the last two."""
    if not isinstance(thing, tuple) or len(thing) != 3:
        return False
    names, kinds, doings = thing
    if not is_row_of_names(names) or not is_row_of_kinds(kinds) or not is_row_of_kinds(doings):
        return False
    return len(set(kinds) & set(doings)) == 0


def is_of(vocabulary, form):
    """Whether all names, kinds and doings of a form stand in a vocabulary."""
    if not is_vocabulary(vocabulary) or not is_form(form):
        return False
    names, kinds, doings = vocabulary
    return (
        all(name in names for name in names_of(form))
        and all(kind in kinds for kind in kinds_of(form))
        and all(doing in doings for doing in doings_of(form))
    )


def with_words(vocabulary, names, kinds):
    """A vocabulary with names and kinds put in that it has not."""
    return (
        tuple(sorted(set(vocabulary[0]) | set(names))),
        tuple(sorted(set(vocabulary[1]) | set(kinds))),
        vocabulary[2],
    )

"""Meanings put in place: in forms, in arguments, and in worlds."""

from linecourt.forms import SHAPES, put_for
from linecourt.truths import Sight, is_of_kind, scopes_of_meanings


def by_kind(meanings):
    """The meanings, by their kinds."""
    return {meaning[0]: meaning for meaning in meanings}


def unfold(told, found, form):
    """The form with the meanings told put in place; found are those that have been, by their kinds and terms."""
    if form[0] == "is":
        return unfold_kind(told, found, form)
    put = [unfold(told, found, piece) if place == "F" else piece for place, piece in zip(SHAPES[form[0]], form[1:])]
    return (form[0], *put)


def unfold_kind(told, found, form):
    """A form t is a kind, with the kind's meaning put in place, if it has one."""
    term, kind = form[1:]
    if kind not in told:
        return form
    # Meanings by meanings may tell of one kind and term at very many places: each is put in place once.
    if (kind, term) not in found:
        x, inner = told[kind][1:]
        found[(kind, term)] = unfold(told, found, put_for(inner, x, term))
    return found[(kind, term)]


def unfolded(meanings, form):
    """The form with all meanings put in place."""
    return unfold(by_kind(meanings), {}, form)


def alike(meanings, one, other):
    """Whether two forms are alike with all meanings put in place."""
    told = by_kind(meanings)
    # What has been found is handed to both: so what is the same in them is one thing, and is compared at once.
    found = {}
    return unfold(told, found, one) == unfold(told, found, other)


def in_place(argument):
    """The argument with its meanings put in place: none are left."""
    vocabulary, meanings, lines = argument
    told = by_kind(meanings)
    found = {}
    return (vocabulary, (), tuple([line_in_place(told, found, line) for line in lines]))


def line_in_place(told, found, line):
    """A line with the meanings told put in place."""
    level, form, reason = line
    word = "again" if reason[0] == "meaning" else reason[0]
    return (level, unfold(told, found, form), (word, *reason[1:]))


def world_with(world, meanings):
    """The world with the meanings' kinds put in, sorted among its kinds."""
    many, names, kinds, doings = world
    sight = Sight(world, scopes_of_meanings(meanings))
    told = list(kinds)
    for meaning in meanings:
        told.append((meaning[0], tuple([thing for thing in range(many) if is_of_kind(sight, thing, meaning[0])])))
    return (many, names, tuple(sorted(told)), doings)

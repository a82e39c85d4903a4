"""The world against a line: one that keeps all to which the line is open, and not the line."""

from linecourt.arguments import names_at
from linecourt.errors import TooGreat
from linecourt.forms import with_words
from linecourt.lines import open_to
from linecourt.scopes import scope_of
from linecourt.truths import Sight, scope_holds, scopes_of_meanings
from linecourt.worlds import MOST_WORLDS, how_many_up_to, worlds_of

BEYOND = "beyond the bound"


class Doubt:
    """What a world against a line has to keep, what not, and the meanings of their kinds."""

    def __init__(self, argument, k):
        lines = argument[2]
        self.meanings = scopes_of_meanings(argument[1])
        self.kept_scopes = [scope_of(lines[m - 1][1], True) for m in open_to(lines, k)]
        self.broken_scope = scope_of(lines[k - 1][1], True)


def first_broken(sight, scopes):
    """The place of the first of some scopes that doesn't hold; None where all do."""
    for at, scope in enumerate(scopes):
        if not scope_holds(sight, scope, {}):
            return at
    return None


def is_against(doubt, world):
    """Whether a world keeps what it has to keep, and not what it hasn't."""
    sight = Sight(world, doubt.meanings)
    if scope_holds(sight, doubt.broken_scope, {}):
        return False
    at = first_broken(sight, doubt.kept_scopes)
    if at is None:
        return True
    # What this world doesn't keep the next one often doesn't keep either: it is asked first there.
    doubt.kept_scopes.insert(0, doubt.kept_scopes.pop(at))
    return False


def against(argument, k, size):
    """The least world against line k, of one thing, else of two, and so on up to a size; else a text; or TooGreat."""
    vocabulary = with_words(argument[0], names_at(argument, k), [])
    many = how_many_up_to(vocabulary, size)
    if many > MOST_WORLDS:
        raise TooGreat(many, MOST_WORLDS)
    doubt = Doubt(argument, k)
    for things in range(1, size + 1):
        for world in worlds_of(vocabulary, things):
            if is_against(doubt, world):
                return world
    return BEYOND

"""Worlds: some things, which of them the names are, of which kinds they are, and what they do."""

from linecourt.forms import is_vocabulary
from linecourt.wholes import is_whole, is_whole_from, power, powers_up_to, rises

MOST_WORLDS = 4096
# 2 to the power of this is MOST_WORLDS.
MOST_DOUBLINGS = 12


def is_thing(many, thing):
    """Whether a thing is the number of one of so many things."""
    return is_whole(thing) and 0 <= thing < many


def is_pair(many, thing):
    """Whether a thing is a pair of so many things."""
    if not isinstance(thing, tuple) or len(thing) != 2:
        return False
    return is_thing(many, thing[0]) and is_thing(many, thing[1])


def is_row_of_things(many, thing):
    """Whether a thing is a rising tuple of so many things."""
    return isinstance(thing, tuple) and all(is_thing(many, one) for one in thing) and rises(thing)


def is_row_of_pairs(many, thing):
    """Whether a thing is a rising tuple of pairs of so many things."""
    return isinstance(thing, tuple) and all(is_pair(many, pair) for pair in thing) and rises(thing)


def are_told(many, words, thing, is_worth):
    """Whether a thing has a row for each word, in their order: the word and a worth of the right sort."""
    if not isinstance(thing, tuple) or len(thing) != len(words):
        return False
    for word, row in zip(words, thing):
        if not isinstance(row, tuple) or len(row) != 2:
            return False
        if not isinstance(row[0], str) or row[0] != word or not is_worth(many, row[1]):
            return False
    return True


def is_world(vocabulary, thing):
    """Whether a thing is a world of a vocabulary."""
    if not is_vocabulary(vocabulary) or not isinstance(thing, tuple) or len(thing) != 4:
        return False
    many, names, kinds, doings = thing
    return (
        is_whole_from(many, 1)
        and are_told(many, vocabulary[0], names, is_thing)
        and are_told(many, vocabulary[1], kinds, is_row_of_things)
        and are_told(many, vocabulary[2], doings, is_row_of_pairs)
    )


def doublings(vocabulary, size):
    """To which power of 2 the kinds and doings make worlds of a size."""
    return size * len(vocabulary[1]) + size * size * len(vocabulary[2])


def how_many(vocabulary, size):
    """The number of the worlds of a vocabulary of a size."""
    if size < 1:
        return 0
    return power(size, len(vocabulary[0])) << doublings(vocabulary, size)


def how_many_up_to(vocabulary, size):
    """The number of the worlds of a vocabulary of all sizes up to one."""
    if size < 1:
        return 0
    if not vocabulary[1] and not vocabulary[2]:
        return powers_up_to(size, len(vocabulary[0]))
    return sum(how_many(vocabulary, one) for one in range(1, size + 1))


def rows_of(things):
    """All rising tuples of some rising things, in the order in which tuples are compared."""
    told = [()]
    # A row stands ahead of those that go on from it, and these ahead of rows that begin with a greater thing.
    for first in reversed(things):
        told = [(), *[(first, *row) for row in told], *told[1:]]
    return told


def ways_to_tell(words, worths):
    """All tuples of a word and a worth, one for each word, in the order in which tuples are compared."""
    told = [()]
    for word in words:
        told = [(*rows, (word, worth)) for rows in told for worth in worths]
    return told


def worlds_of(vocabulary, size):
    """The worlds of a vocabulary of a size, in order; none are told where they are more than 4,096."""
    if size < 1 or doublings(vocabulary, size) > MOST_DOUBLINGS or how_many(vocabulary, size) > MOST_WORLDS:
        return ()
    names, kinds, doings = vocabulary
    # Rows are built only for words that there are: a great size has too many things, and far too many rows.
    things = list(range(size)) if names or kinds or doings else []
    rows = rows_of(things) if kinds else []
    pairs = [(one, other) for one in things for other in things] if doings else []
    all_named = ways_to_tell(names, things)
    all_kinds = ways_to_tell(kinds, rows)
    all_done = ways_to_tell(doings, rows_of(pairs))
    return tuple([
        (size, named, of_kinds, done) for named in all_named for of_kinds in all_kinds for done in all_done
    ])

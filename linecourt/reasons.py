"""The reasons of lines: their words, and what belongs to each."""

from linecourt.wholes import is_whole, is_whole_from
from linecourt.words import is_name, is_small

# What belongs to each word: k a number of a line, N a name, E the name of an earlier argument, K a tuple of numbers
# of lines, B such a tuple of one to three, T a tuple of times, as many as the tuple ahead.
REASONS = {
    "given": "",
    "supposed": "",
    "any": "N",
    "called": "Nk",
    "again": "k",
    "itself": "",
    "both": "kk",
    "left": "k",
    "right": "k",
    "orleft": "k",
    "orright": "k",
    "then": "kk",
    "absurd": "kk",
    "nothing": "k",
    "at": "kN",
    "such": "kN",
    "put": "kk",
    "soif": "k",
    "not": "k",
    "contrary": "k",
    "cases": "kkk",
    "forany": "k",
    "forsome": "k",
    "meaning": "k",
    "earlier": "EK",
    "asmany": "k",
    "one": "k",
    "two": "kkk",
    "someof": "k",
    "none": "k",
    "nomore": "k",
    "apart": "kk",
    "cover": "k",
    "turned": "k",
    "sums": "KT",
    "by": "B",
    "clearly": "",
}
OPENERS = ("supposed", "any", "called")
NAMING = ("any", "called")


def is_line_number(thing, last):
    """Whether a thing is the number of one of so many lines."""
    return is_whole(thing) and 1 <= thing <= last


def are_line_numbers(thing, last):
    """Whether a thing is a tuple of numbers of lines."""
    return isinstance(thing, tuple) and all(is_line_number(number, last) for number in thing)


def are_times(thing):
    """Whether a thing is a tuple of whole numbers from 0 on."""
    return isinstance(thing, tuple) and all(is_whole_from(number, 0) for number in thing)


def fits_reason(place, thing, last):
    """Whether a thing may stand at a place of a reason (see REASONS), among so many lines."""
    if place == "k":
        return is_line_number(thing, last)
    if place == "N":
        return is_name(thing)
    if place == "E":
        return is_small(thing, 1, 8)
    if place == "T":
        return are_times(thing)
    if place == "B":
        return are_line_numbers(thing, last) and 1 <= len(thing) <= 3
    return are_line_numbers(thing, last)


def is_reason(thing, last):
    """Whether a thing is a reason in an argument of so many lines, whether it fits or not."""
    if not isinstance(thing, tuple) or not thing or not isinstance(thing[0], str):
        return False
    shape = REASONS.get(thing[0])
    if shape is None or len(shape) != len(thing) - 1:
        return False
    if not all(fits_reason(place, piece, last) for place, piece in zip(shape, thing[1:])):
        return False
    return thing[0] != "sums" or len(thing[1]) == len(thing[2])


def numbers_in(reason):
    """The numbers of lines that a reason names, in order."""
    told = []
    for place, piece in zip(REASONS[reason[0]], reason[1:]):
        if place == "k":
            told.append(piece)
        elif place in ("K", "B"):
            told.extend(piece)
    return told


def moved_at(place, piece, numbers):
    """What stands at a place of a reason, the lines having new numbers."""
    if place == "k":
        return numbers[piece - 1]
    if place in ("K", "B"):
        return tuple([numbers[m - 1] for m in piece])
    return piece


def moved(reason, numbers):
    """The reason, the lines that it names having new numbers: that of line 1 first, and so on."""
    put = [moved_at(place, piece, numbers) for place, piece in zip(REASONS[reason[0]], reason[1:])]
    return (reason[0], *put)


def with_new_names(reason, new):
    """The reason with other names in the place of those that are to be called anew."""
    put = [new.get(piece, piece) if place == "N" else piece for place, piece in zip(REASONS[reason[0]], reason[1:])]
    return (reason[0], *put)

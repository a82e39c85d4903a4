"""The court's word on an argument: let by, with what is written out, or refused, with a world against it."""

from linecourt.against import BEYOND, against
from linecourt.errors import Lacks, TooGreat
from linecourt.filling import Writing, write_line, written_of

# The worlds against a refused line have so many things at most.
SIZE = 2


def told_against(argument, k):
    """The world against line k, of at most two things; a text where there is none, or too many worlds."""
    try:
        return against(argument, k, SIZE)
    except TooGreat:
        return BEYOND


def court_word(argument, earlier=None):
    """What the court says of an argument, which may lean on earlier ones."""
    writing = Writing(argument, earlier)
    for k in range(1, len(argument[2]) + 1):
        try:
            write_line(writing, k)
        except Lacks:
            return ("refused", k, told_against(argument, k))
        except TooGreat:
            return ("refused", k, BEYOND)
    return ("let by", written_of(writing))

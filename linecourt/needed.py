"""The lines that an argument needs for its last one, and the argument without the others."""

from linecourt.lines import openers_at, picked, told_by
from linecourt.reasons import numbers_in


def asked_by(lines, k):
    """The numbers of the lines that line k needs: those that its reason names, what boxes told, and its openers."""
    numbers = numbers_in(lines[k - 1][2])
    told = [told_by(lines, i, k) for i in numbers]
    return [*numbers, *[m for m in told if m is not None], *openers_at(lines, k)]


def needed(argument):
    """The numbers of the needed lines of an argument that is let by, rising."""
    lines = argument[2]
    wanted = {len(lines): True}
    # A line needs such as stand ahead of it alone: gone through from behind, all that need it have been asked.
    for k in range(len(lines), 0, -1):
        if k in wanted:
            for m in asked_by(lines, k):
                wanted[m] = True
    return tuple(sorted(wanted))


def thinned(argument):
    """An argument that is let by, without the lines that aren't needed."""
    vocabulary, meanings, lines = argument
    return (vocabulary, meanings, picked(lines, needed(argument)))

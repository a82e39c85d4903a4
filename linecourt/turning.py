"""Arguments turned to a contradiction, and out of it."""

from linecourt.checker import lets_by
from linecourt.errors import NoTurn
from linecourt.forms import FALSE
from linecourt.lines import how_many_given
from linecourt.reasons import moved


def shifted(lines, more, numbers):
    """Lines so much deeper, the lines that they name having new numbers."""
    return [(level + more, form, moved(reason, numbers)) for level, form, reason in lines]


def to_contrary(argument):
    """The argument, its last form being shown by supposing that it isn't so."""
    vocabulary, meanings, lines = argument
    givens = how_many_given(lines)
    opener = givens + 1
    numbers = [m if m <= givens else m + 1 for m in range(1, len(lines) + 1)]
    form = lines[-1][1]
    return (vocabulary, meanings, (
        *lines[:givens],
        (1, ("not", form), ("supposed",)),
        *shifted(lines[givens:], 1, numbers),
        (1, FALSE, ("absurd", numbers[-1], opener)),
        (0, form, ("contrary", opener)),
    ))


def out_of(argument):
    """What is turned to an argument, if anything is: its givens and the lines between what is put in."""
    vocabulary, meanings, lines = argument
    givens = how_many_given(lines)
    numbers = [m if m <= givens else m - 1 for m in range(1, len(lines) + 1)]
    return (vocabulary, meanings, (*lines[:givens], *shifted(lines[givens + 1:-2], -1, numbers)))


def out_of_contrary(argument):
    """The argument that is let by and turned to this one; or NoTurn."""
    if lets_by(argument):
        told = out_of(argument)
        # A line that leant on what was supposed, or the like, isn't turned to just this.
        if lets_by(told) and to_contrary(told) == argument:
            return told
    raise NoTurn("no argument is turned to this one")

"""Arguments: (vocabulary, meanings, lines). What is one, and what can be read off its lines."""

from linecourt.forms import counted_kinds, free_letters, is_form, is_of, is_vocabulary, with_words
from linecourt.lines import all_openers, is_given_line, is_opener, openers_at
from linecourt.meaningforms import are_meanings, catches_meaning
from linecourt.reasons import NAMING, is_reason
from linecourt.wholes import is_whole


def is_line(thing, last):
    """Whether a thing is a line of an argument of so many lines, whatever its level and its form's words."""
    if not isinstance(thing, tuple) or len(thing) != 3:
        return False
    return is_whole(thing[0]) and is_form(thing[1]) and is_reason(thing[2], last)


def level_fits(ahead, line):
    """Whether a line has a level that it may have, that of the line ahead being told."""
    least, most = (1, ahead + 1) if is_opener(line) else (0, ahead)
    return least <= line[0] <= most


def levels_fit(lines):
    """Whether each line has a level that it may have behind the line ahead, the last one 0."""
    ahead = 0
    for line in lines:
        if not level_fits(ahead, line):
            return False
        ahead = line[0]
    return ahead == 0


def opened_names(lines):
    """The names that any and called bring in, in order."""
    return [line[2][1] for line in lines if line[2][0] in NAMING]


def names_differ(vocabulary, lines):
    """Whether the names of any and called are unlike each other and those of the vocabulary."""
    names = opened_names(lines)
    return len(set(names)) == len(names) and not any(name in vocabulary[0] for name in names)


def form_fits(argument, form, names):
    """Whether a form may stand in a line of an argument, the names being those of the line's openers."""
    vocabulary, meanings = argument[:2]
    wide = with_words(vocabulary, names, [meaning[0] for meaning in meanings])
    if free_letters(form) or not is_of(wide, form) or catches_meaning(form, meanings):
        return False
    return all(kind in vocabulary[1] for kind in counted_kinds(form))


def forms_fit(argument):
    """Whether the form of each line may stand there."""
    lines = argument[2]
    for line, openers in zip(lines, all_openers(lines)):
        if not form_fits(argument, line[1], opened_names([lines[i - 1] for i in openers])):
            return False
    return True


def are_lines(thing):
    """Whether a thing is a tuple of lines, one at least, their levels as they may be."""
    if not isinstance(thing, tuple) or not thing:
        return False
    return all(is_line(line, len(thing)) for line in thing) and levels_fit(thing)


def is_argument(thing):
    """Whether a thing is an argument."""
    if not isinstance(thing, tuple) or len(thing) != 3:
        return False
    vocabulary, meanings, lines = thing
    if not is_vocabulary(vocabulary) or not are_meanings(vocabulary, meanings) or not are_lines(lines):
        return False
    return names_differ(vocabulary, lines) and forms_fit(thing)


def supposed_at(argument, k):
    """The forms of the openers of line k, the outermost first."""
    lines = argument[2]
    return tuple([lines[i - 1][1] for i in openers_at(lines, k)])


def names_at(argument, k):
    """The names of line k: the vocabulary's, then those of its openers, the outermost first."""
    lines = argument[2]
    return (*argument[0][0], *opened_names([lines[i - 1] for i in openers_at(lines, k)]))


def shown(argument):
    """What an argument shows: the forms of its given lines, in order, and that of its last line."""
    lines = argument[2]
    return (tuple([line[1] for line in lines if is_given_line(line)]), lines[-1][1])

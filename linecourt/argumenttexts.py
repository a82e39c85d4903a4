"""Arguments written as rows, and read."""

from linecourt.arguments import form_fits, level_fits, opened_names
from linecourt.errors import NoText
from linecourt.forms import FALSE, is_vocabulary, with_words
from linecourt.formtexts import show_form
from linecourt.lines import ends_box, is_opener
from linecourt.meaningforms import are_meanings
from linecourt.reasons import numbers_in
from linecourt.reasontexts import read_reason, reason_words
from linecourt.sentences import readings_within
from linecourt.words import is_letter

# The first words of the first rows.
HEADS = ("names", "kinds", "doings")
MEANING = "meaning"
COLON = ":"
BAR = "|"


class Draft:
    """An argument that is being read: what its rows have told so far."""

    def __init__(self):
        self.vocabulary = ((), (), ())
        self.meanings = []
        self.lines = []
        # The lines of the openers of the last line, the outermost first, and all names that openers have brought in.
        self.around = []
        self.opened = {}


def line_row(number, line):
    """The row of a line."""
    level, form, reason = line
    return " ".join([str(number), *[BAR] * level, *reason_words(reason), COLON, show_form(form)])


def show_argument(argument):
    """An argument, written."""
    vocabulary, meanings, lines = argument
    rows = [" ".join([head, *words]) for head, words in zip(HEADS, vocabulary)]
    rows.extend([f"{MEANING} {kind} {x} {COLON} {show_form(form)}" for kind, x, form in meanings])
    rows.extend([line_row(at + 1, line) for at, line in enumerate(lines)])
    return "\n".join(rows)


def words_of(row):
    """The words of a row, blanks being between them."""
    return [word for word in row.split(" ") if word != ""]


def read_form(draft, names, bound, words):
    """The one form that words are read to, with names and letters more; None where there is none, or two."""
    kinds = [meaning[0] for meaning in draft.meanings]
    told = readings_within(with_words(draft.vocabulary, names, kinds), bound, " ".join(words))
    return told[0] if len(told) == 1 else None


def take_words(draft, at, words):
    """Reads one of the first rows; whether it is one, and fits."""
    if words[:1] != [HEADS[at]]:
        return False
    draft.vocabulary = (*draft.vocabulary[:at], tuple(words[1:]), *draft.vocabulary[at + 1:])
    return is_vocabulary(draft.vocabulary)


def take_meaning(draft, words):
    """Reads the row of a meaning; whether it is one, and fits."""
    if len(words) < 4 or words[3] != COLON or not is_letter(words[2]):
        return False
    kind, x = words[1:3]
    form = read_form(draft, [], (x,), words[4:])
    if form is None:
        return False
    draft.meanings.append((kind, x, form))
    return are_meanings(draft.vocabulary, tuple(draft.meanings))


def how_many_bars(words):
    """How many bars stand ahead of all other words."""
    many = 0
    while many < len(words) and words[many] == BAR:
        many += 1
    return many


def read_place(draft, words):
    """A line without its form, from the words ahead of the colon; None where they tell none that fits."""
    if words[:1] != [str(len(draft.lines) + 1)]:
        return None
    level = how_many_bars(words[1:])
    reason = read_reason(words[level + 1:])
    if reason is None:
        return None
    line = (level, FALSE, reason)
    ahead = draft.lines[-1][0] if draft.lines else 0
    return line if level_fits(ahead, line) else None


def enter(draft, line):
    """Leaves the boxes that end ahead of a line, and opens its own; whether its name, if it has one, is new."""
    draft.around = [opener for opener in draft.around if not ends_box(line, opener[0])]
    if not is_opener(line):
        return True
    draft.around.append(line)
    for name in opened_names([line]):
        if name in draft.opened or name in draft.vocabulary[0]:
            return False
        draft.opened[name] = True
    return True


def take_line(draft, words):
    """Reads the row of a line; whether it is one, and fits."""
    if COLON not in words:
        return False
    at = words.index(COLON)
    line = read_place(draft, words[:at])
    if line is None or not enter(draft, line):
        return False
    names = opened_names(draft.around)
    form = read_form(draft, names, (), words[at + 1:])
    if form is None or not form_fits((draft.vocabulary, draft.meanings), form, names):
        return False
    draft.lines.append((line[0], form, line[2]))
    return True


def take_row(draft, at, words):
    """Reads a row; whether it is of a form that it may have there, and fits to those ahead."""
    if at < len(HEADS):
        return take_words(draft, at, words)
    if words[:1] == [MEANING] and not draft.lines:
        return take_meaning(draft, words)
    return take_line(draft, words)


def is_ended(draft):
    """Whether all rows together tell an argument, each of them fitting to those ahead."""
    if not draft.lines or draft.lines[-1][0] > 0:
        return False
    return all(m <= len(draft.lines) for line in draft.lines for m in numbers_in(line[2]))


def read_argument(text):
    """The argument that is written so; or NoText."""
    if not isinstance(text, str):
        raise NoText(0)
    rows = text.split("\n")
    draft = Draft()
    for at, row in enumerate(rows):
        if not take_row(draft, at, words_of(row)):
            raise NoText(at)
    if not is_ended(draft):
        raise NoText(len(rows) - 1)
    return (draft.vocabulary, tuple(draft.meanings), tuple(draft.lines))

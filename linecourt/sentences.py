"""Sentences: the forms that they can be read to, by a vocabulary."""

from linecourt.errors import NoSentence, TwoReadings
from linecourt.formtexts import show_form
from linecourt.wordings import simple_forms
from linecourt.words import is_letter


class Level:
    """The words of a sentence, or between two of its brackets, and the letters that are bound there.

    A bracket within stands in the row as the tuple of the forms that it is read to.
    """

    def __init__(self, bound):
        self.bound = bound
        self.row = []
        self.spans = {}


def bound_within(level):
    """The letters that are bound in a bracket that begins behind what stands in a level."""
    ahead = level.row[-2:]
    if len(ahead) == 2 and ahead[0] in ("every", "some") and is_letter(ahead[1]):
        return (*level.bound, ahead[1])
    return level.bound


def ways_behind(row, start, end, head, middle):
    """Where a sentence that begins with a word can be parted, at another word: the spans of its two sentences."""
    if row[start] != head:
        return []
    return [((start + 1, at), (at + 1, end)) for at in range(start + 1, end) if row[at] == middle]


def ways_between(row, start, end, middle):
    """Where a sentence can be parted at a word in its midst: the spans of its two sentences."""
    return [((start, at), (at + 1, end)) for at in range(start + 1, end) if row[at] == middle]


def ways_only_if(row, start, end):
    """Where a sentence can be parted at only if."""
    return [
        ((start, at), (at + 2, end)) for at in range(start + 1, end - 1) if row[at] == "only" and row[at + 1] == "if"
    ]


def ways_to_part(row, start, end):
    """All ways to part a span into two sentences: the word at its top, the form's word, the spans of F and G."""
    told = [("if", "if", one, other) for one, other in ways_behind(row, start, end, "if", "then")]
    told.extend([("either", "or", one, other) for one, other in ways_behind(row, start, end, "either", "or")])
    told.extend([("and", "and", one, other) for one, other in ways_between(row, start, end, "and")])
    told.extend([("or", "or", one, other) for one, other in ways_between(row, start, end, "or")])
    told.extend([("unless", "or", one, other) for one, other in ways_between(row, start, end, "unless")])
    # G if F has its F behind.
    told.extend([("if", "if", other, one) for one, other in ways_between(row, start, end, "if")])
    told.extend([("only", "if", one, other) for one, other in ways_only_if(row, start, end)])
    return told


def whole_forms(words, vocabulary, bound):
    """The forms of words that are not parted: a bracket, every x or some x and a bracket, or a simple sentence."""
    if isinstance(words[-1], tuple):
        if len(words) == 1:
            return list(words[0])
        if len(words) == 3 and words[0] in ("every", "some") and is_letter(words[1]):
            return [(words[0], words[1], form) for form in words[2]]
    if any(isinstance(word, tuple) for word in words):
        return []
    return simple_forms(words, vocabulary, bound)


def span_forms(level, vocabulary, start, end):
    """The readings of a span: forms by the word at the top of the sentence and the text of the form."""
    if (start, end) not in level.spans:
        level.spans[(start, end)] = new_span_forms(level, vocabulary, start, end)
    return level.spans[(start, end)]


def new_span_forms(level, vocabulary, start, end):
    """The readings of a span that has not been read yet."""
    if start >= end:
        return {}
    found = {("", show_form(form)): form for form in whole_forms(level.row[start:end], vocabulary, level.bound)}
    if level.row[start] == "not":
        for form in span_forms(level, vocabulary, start + 1, end).values():
            denied = ("not", form)
            found[("not", show_form(denied))] = denied
    for top, word, one, other in ways_to_part(level.row, start, end):
        firsts = span_forms(level, vocabulary, one[0], one[1])
        seconds = span_forms(level, vocabulary, other[0], other[1]) if firsts else {}
        for first in firsts.values():
            for (top_behind, text), second in seconds.items():
                # F and G and H is parted at its last and alone, F or G or H at its last or.
                if top != top_behind or top not in ("and", "or"):
                    form = (word, first, second)
                    found[(top, show_form(form))] = form
    return found


def level_forms(level, vocabulary):
    """The forms that a level is read to, each once, by their texts."""
    by_text = {text: form for (top, text), form in span_forms(level, vocabulary, 0, len(level.row)).items()}
    return tuple([by_text[text] for text in sorted(by_text)])


def readings(vocabulary, text):
    """The closed forms of a vocabulary that a text can be read to, each once, by their texts."""
    return readings_within(vocabulary, (), text)


def readings_within(vocabulary, bound, text):
    """The forms that a text can be read to where some letters are bound around it, each once, by their texts."""
    if not isinstance(text, str):
        return ()
    levels = [Level(bound)]
    for word in text.split(" "):
        if word == "(":
            levels.append(Level(bound_within(levels[-1])))
        elif word == ")":
            ended = levels.pop()
            inner = level_forms(ended, vocabulary) if levels else ()
            # No bracket was begun, or there is no reading of what it holds.
            if not inner:
                return ()
            levels[-1].row.append(inner)
        elif word != "":
            levels[-1].row.append(word)
    if len(levels) > 1:
        return ()
    return level_forms(levels[0], vocabulary)


def read_sentence(vocabulary, text):
    """The one form that a text is read to, or NoSentence, TwoReadings."""
    told = readings(vocabulary, text)
    if not told:
        raise NoSentence(f"no reading: {text}")
    if len(told) > 1:
        raise TwoReadings(told[0], told[1])
    return told[0]

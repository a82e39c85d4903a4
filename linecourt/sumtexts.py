"""Numbers and sums read from their words."""

from linecourt.forms import is_sum
from linecourt.formtexts import show_sum
from linecourt.words import FIGURES, is_all_of


def is_number_text(word):
    """Whether a word is a number as written: figures, without noughts ahead."""
    return word == "0" or (is_all_of(word, FIGURES) and word != "" and word[0] != "0")


def parted(words, sign):
    """The rows of words between signs."""
    rows = [[]]
    for word in words:
        if word == sign:
            rows.append([])
        else:
            rows[-1].append(word)
    return rows


def read_sum(words, kinds):
    """The sum that is written so, its kinds among those told; else None."""
    parts = []
    number = 0
    for row in parted(words, "+"):
        if len(row) == 1 and is_number_text(row[0]):
            number = int(row[0])
        elif len(row) == 1 and row[0] in kinds:
            parts.append((row[0], 1))
        elif len(row) == 2 and is_number_text(row[0]) and row[1] in kinds:
            parts.append((row[1], int(row[0])))
        else:
            return None
    total = (tuple(parts), number)
    # Each sum is written in one way alone: what reads to it in another order, or with noughts, is none.
    if not is_sum(total) or show_sum(total) != " ".join(words):
        return None
    return total


def read_least(words, kinds):
    """The form of one sum that is at least another one, if it is written so; else None."""
    rows = parted(words, ">=")
    if len(rows) != 2:
        return None
    one = read_sum(rows[0], kinds)
    other = read_sum(rows[1], kinds)
    if one is None or other is None:
        return None
    return ("least", one, other)

"""The words of the tongue: names, kinds and doings, letters."""

SMALL = "abcdefghijklmnopqrstuvwxyz"
GREAT = "ABCDEFGHIJKLMNOPQRSTUVWXYZ"
FIGURES = "0123456789"
LETTERS = "uvwxyz"

# These are words of sentences, so that no kind or doing can be mistaken for one.
BARRED = (
    "absurd", "all", "an", "and", "any", "are", "as", "at", "be", "by", "false", "if", "is",
    "least", "many", "more", "no", "not", "only", "or", "same", "some", "than", "the", "then",
    "there", "every", "either", "unless",
)


def is_all_of(text, signs):
    """Whether each sign of a text is one of the signs."""
    return all(sign in signs for sign in text)


def is_small(thing, least, most):
    """Whether a thing is a text of small letters, from the least to the most of them."""
    return isinstance(thing, str) and least <= len(thing) <= most and is_all_of(thing, SMALL)


def is_name(thing):
    """Whether a thing is a name: a great letter and none to seven small ones."""
    if not isinstance(thing, str) or not thing:
        return False
    return thing[0] in GREAT and is_small(thing[1:], 0, 7)


def is_kind(thing):
    """Whether a thing is a kind or a doing: two to eight small letters, no word of sentences."""
    return is_small(thing, 2, 8) and thing not in BARRED


def is_letter(thing):
    """Whether a thing is a letter: one of u to z, perhaps with one figure behind."""
    if not isinstance(thing, str) or not 1 <= len(thing) <= 2:
        return False
    return thing[0] in LETTERS and is_all_of(thing[1:], FIGURES)


def is_term(thing):
    """Whether a thing is a name or a letter."""
    return is_name(thing) or is_letter(thing)

"""Meanings: (kind, x, F), a kind told by a form. What is one, and what they ask of the forms of lines."""

from linecourt.forms import free_letters, is_form, is_of, kinds_of, letters_of, parts_of, with_words
from linecourt.words import is_kind, is_letter


def meaning_letters(meaning):
    """All letters that stand in a meaning."""
    return [meaning[1], *letters_of(meaning[2])]


def is_meaning(ahead, thing):
    """Whether a thing is a meaning, ahead being the vocabulary with the kinds of the meanings ahead of it."""
    if not isinstance(thing, tuple) or len(thing) != 3:
        return False
    kind, x, form = thing
    if not is_kind(kind) or kind in ahead[1] or kind in ahead[2]:
        return False
    if not is_letter(x) or not is_form(form) or not is_of(ahead, form):
        return False
    if any(letter != x for letter in free_letters(form)) or any(part[0] == "least" for part in parts_of(form)):
        return False
    return all(len(letter) == 2 for letter in meaning_letters(thing))


def are_meanings(vocabulary, thing):
    """Whether a thing is a tuple of meanings, no letter in two of them."""
    if not isinstance(thing, tuple):
        return False
    ahead = vocabulary
    letters = []
    for meaning in thing:
        if not is_meaning(ahead, meaning):
            return False
        own = meaning_letters(meaning)
        if any(letter in letters for letter in own):
            return False
        letters.extend(own)
        ahead = with_words(ahead, [], [meaning[0]])
    return True


def catches_meaning(form, meanings):
    """Whether a meaning's kind stands within an every or some of a meaning's letter in a form.

    Such a letter would be caught by the meaning's own every or some, with the meaning put in place.
    """
    told = [meaning[0] for meaning in meanings]
    letters = [letter for meaning in meanings for letter in meaning_letters(meaning)]
    caught = [part for part in parts_of(form) if part[0] in ("every", "some") and part[1] in letters]
    return any(kind in told for part in caught for kind in kinds_of(part))

"""The rules by which a form follows from one or two others, and those by which it needs none."""

from linecourt.forms import FALSE, SHAPES, is_case, pieces
from linecourt.reasons import REASONS


def is_again(form, forms, name):
    """K itself."""
    return form == forms[0]


def is_itself(form, forms, name):
    """t is t."""
    return form[0] == "same" and form[1] == form[2]


def is_both(form, forms, name):
    """J and K."""
    return form == ("and", forms[0], forms[1])


def is_left(form, forms, name):
    """F of F and G."""
    return forms[0][0] == "and" and form == forms[0][1]


def is_right_side(form, forms, name):
    """G of F and G."""
    return forms[0][0] == "and" and form == forms[0][2]


def is_or_left(form, forms, name):
    """K or any G."""
    return form[0] == "or" and form[1] == forms[0]


def is_or_right(form, forms, name):
    """Any F or K."""
    return form[0] == "or" and form[2] == forms[0]


def is_then(form, forms, name):
    """What J, if K then this, tells."""
    return forms[0] == ("if", forms[1], form)


def is_absurd(form, forms, name):
    """False, of J and not J."""
    return form == FALSE and forms[1] == ("not", forms[0])


def is_of_nothing(form, forms, name):
    """Any form, of false."""
    return forms[0] == FALSE


def is_at(form, forms, name):
    """F with the name for x, of every x F."""
    return is_case(forms[0], "every", name, form)


def is_such(form, forms, name):
    """Some x F, of F with the name for x."""
    return is_case(form, "some", name, forms[0])


def is_put(form, forms, name):
    """K with u in the place of t at some of the places, of t is u."""
    return forms[0][0] == "same" and puts(forms[0][1], forms[0][2], forms[1], form)


def puts(t, u, old, new):
    """Whether a form is an old one with u in the place of t at some of the places, none or all."""
    if old[0] != new[0]:
        return False
    bound = pieces(old, "x")
    # Where a letter is bound it is another one than that which is told to be the same as something.
    if t in bound or u in bound:
        return old == new
    return all(puts_at(place, t, u, one, other) for place, one, other in zip(SHAPES[old[0]], old[1:], new[1:]))


def puts_at(place, t, u, old, new):
    """Whether what stands at a place of a form is the old one, perhaps with u in the place of t."""
    if place == "F":
        return puts(t, u, old, new)
    return old == new or (place == "t" and old == t and new == u)


RULES = {
    "again": is_again,
    "itself": is_itself,
    "both": is_both,
    "left": is_left,
    "right": is_right_side,
    "orleft": is_or_left,
    "orright": is_or_right,
    "then": is_then,
    "absurd": is_absurd,
    "nothing": is_of_nothing,
    "at": is_at,
    "such": is_such,
    "put": is_put,
}


def follows(word, form, forms, name=None):
    """Whether a form follows by a word from the forms J, K, with the name N where the word asks for one."""
    if word not in RULES or len(forms) != REASONS[word].count("k"):
        return False
    rule = RULES[word]
    return rule(form, forms, name)

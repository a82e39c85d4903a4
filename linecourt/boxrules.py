"""The reasons that open boxes, and those that lean on boxes that are done."""

from linecourt.forms import FALSE, is_case
from linecourt.lines import open_to, told_by


def form_at(lines, k):
    """The form of line k."""
    return lines[k - 1][1]


def told_form(lines, word, i, k):
    """What the box of opener i told, done for line k; None where it isn't done or i has another word."""
    told = told_by(lines, i, k)
    if told is None or lines[i - 1][2][0] != word:
        return None
    return form_at(lines, told)


def is_supposed(lines, k, reason):
    """Anything may be supposed."""
    return True


def is_any(lines, k, reason):
    """N is N."""
    return form_at(lines, k) == ("same", reason[1], reason[1])


def is_called(lines, k, reason):
    """F with N for x, of some x F."""
    name, m = reason[1:]
    return m in open_to(lines, k) and is_case(form_at(lines, m), "some", name, form_at(lines, k))


def is_so_if(lines, k, reason):
    """If what was supposed, then what the box told."""
    told = told_form(lines, "supposed", reason[1], k)
    return told is not None and form_at(lines, k) == ("if", form_at(lines, reason[1]), told)


def is_not(lines, k, reason):
    """Not what was supposed, the box having told false."""
    told = told_form(lines, "supposed", reason[1], k)
    return told == FALSE and form_at(lines, k) == ("not", form_at(lines, reason[1]))


def is_contrary(lines, k, reason):
    """What was supposed not to be, the box having told false."""
    told = told_form(lines, "supposed", reason[1], k)
    return told == FALSE and form_at(lines, reason[1]) == ("not", form_at(lines, k))


def is_of_cases(lines, k, reason):
    """What both boxes told, one for each side of an or."""
    m, i, n = reason[1:]
    if told_form(lines, "supposed", i, k) != form_at(lines, k):
        return False
    if told_form(lines, "supposed", n, k) != form_at(lines, k):
        return False
    return m in open_to(lines, k) and form_at(lines, m) == ("or", form_at(lines, i), form_at(lines, n))


def is_for_any(lines, k, reason):
    """Every x F, F with N for x being what the box told."""
    told = told_form(lines, "any", reason[1], k)
    return told is not None and is_case(form_at(lines, k), "every", lines[reason[1] - 1][2][1], told)


def is_for_some(lines, k, reason):
    """What the box told."""
    return told_form(lines, "called", reason[1], k) == form_at(lines, k)


BOX_RULES = {
    "supposed": is_supposed,
    "any": is_any,
    "called": is_called,
    "soif": is_so_if,
    "not": is_not,
    "contrary": is_contrary,
    "cases": is_of_cases,
    "forany": is_for_any,
    "forsome": is_for_some,
}


def boxed(argument, k):
    """Whether line k is right, its reason being one that opens a box or leans on boxes; False of other reasons."""
    lines = argument[2]
    reason = lines[k - 1][2]
    if reason[0] not in BOX_RULES:
        return False
    rule = BOX_RULES[reason[0]]
    return rule(lines, k, reason)

"""The small checker, which knows the rules alone: whether lines are right, and arguments let by."""

from linecourt.arguments import is_argument, names_at, shown
from linecourt.boxrules import BOX_RULES, boxed
from linecourt.counts import COUNT_RULES, counted
from linecourt.lines import all_openers, is_given_line, is_open
from linecourt.meanings import alike
from linecourt.reasons import numbers_in
from linecourt.rules import follows
from linecourt.sums import summed


class Shelf:
    """Earlier arguments, in order, and which of them have been found to be let by."""

    def __init__(self, earlier):
        self.rows = [] if earlier is None else list(earlier)
        self.found = []


class Case:
    """An argument that is looked at, and the earlier ones on which it may lean: the first so many of a shelf."""

    def __init__(self, argument, shelf, ahead):
        self.argument = argument
        self.openers = all_openers(argument[2])
        self.shelf = shelf
        self.ahead = ahead


def new_case(argument, earlier):
    """An argument that may lean on all earlier ones."""
    shelf = Shelf(earlier)
    return Case(argument, shelf, len(shelf.rows))


def form_of(case, k):
    """The form of line k."""
    return case.argument[2][k - 1][1]


def place_of(case, name):
    """The place, among the earlier ones on which a case may lean, of that of a name; None where there is none."""
    for at, row in enumerate(case.shelf.rows[:case.ahead]):
        if row[0] == name:
            return at
    return None


def is_let_by_at(shelf, at):
    """Whether the earlier argument at a place is let by."""
    # Each leans on those ahead of it alone: gone through in order, none waits for another one.
    while len(shelf.found) <= at:
        here = len(shelf.found)
        shelf.found.append(is_let_by(shelf.rows[here][1], shelf, here))
    return shelf.found[at]


def is_of_earlier(case, form, forms, name):
    """Whether the earlier argument of a name shows a form from just these forms, in order."""
    at = place_of(case, name)
    if at is None or not is_let_by_at(case.shelf, at):
        return False
    other = case.shelf.rows[at][1]
    return other[:2] == case.argument[:2] and shown(other) == (forms, form)


def is_given(case, k):
    """Whether line k may be given: at level 0, all lines ahead being given, too."""
    lines = case.argument[2]
    return lines[k - 1][0] == 0 and all(is_given_line(line) for line in lines[:k])


def is_right_by(case, k, reason):
    """Whether line k is right by a reason of the rules without boxes; by and clearly are none."""
    numbers = numbers_in(reason)
    if not all(is_open(case.openers, k, m) for m in numbers):
        return False
    word = reason[0]
    form = form_of(case, k)
    forms = tuple([form_of(case, m) for m in numbers])
    if word == "meaning":
        return alike(case.argument[1], form, forms[0])
    if word == "earlier":
        return is_of_earlier(case, form, forms, reason[1])
    if word == "sums":
        return summed(form, forms, reason[2])
    if word in COUNT_RULES:
        return counted(word, form, forms)
    if word in ("at", "such"):
        return reason[2] in names_at(case.argument, k) and follows(word, form, forms, reason[2])
    return follows(word, form, forms)


def is_right_line(case, k):
    """Whether line k of a case is right."""
    reason = case.argument[2][k - 1][2]
    if reason[0] == "given":
        return is_given(case, k)
    if reason[0] in BOX_RULES:
        return boxed(case.argument, k)
    return is_right_by(case, k, reason)


def is_let_by(thing, shelf, ahead):
    """Whether a thing is an argument all of whose lines are right, which may lean on the first so many of a shelf."""
    if not is_argument(thing):
        return False
    case = Case(thing, shelf, ahead)
    return all(is_right_line(case, k) for k in range(1, len(thing[2]) + 1))


def is_right(argument, k, earlier=None):
    """Whether line k of an argument is right."""
    return is_right_line(new_case(argument, earlier), k)


def lets_by(thing, earlier=None):
    """Whether a thing is an argument, and the small checker lets it by."""
    shelf = Shelf(earlier)
    return is_let_by(thing, shelf, len(shelf.rows))

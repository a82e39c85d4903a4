"""Forms taken apart for asking whether they hold.

Twelve of every and some within one another, in a world of twenty things, are far too many ways to go through one by
one. So each every and some is first made to reach no further than its letter stands: what has not its letter is left
outside, and it is given to each of the others alone where that comes to the same (every over and, some over or).
"""

from linecourt.forms import free_letters

# How a not around turns a form's word.
TURNED = {"and": "or", "or": "and", "every": "some", "some": "every"}
# The word of a group over which each of these can be given to each of the group.
SHARED = {"every": "and", "some": "or"}


class Fact:
    """A form without forms in it, which should hold or not."""

    def __init__(self, form, wanted):
        self.form = form
        self.wanted = wanted
        self.free = free_letters(form)


class Group:
    """Scopes that should all hold (how is and), or one of them at least (how is or)."""

    def __init__(self, how, inner):
        self.how = how
        self.inner = inner
        self.free = tuple(sorted({letter for scope in inner for letter in scope.free}))


class Reach:
    """A scope that should hold of every thing for its letter, or of some (how is that word)."""

    def __init__(self, how, letter, inner):
        self.how = how
        self.letter = letter
        self.inner = inner
        self.free = tuple([other for other in inner.free if other != letter])


def scope_of(form, wanted):
    """What has to hold that a form holds, or, where that is wanted, that it doesn't."""
    word = form[0]
    if word == "not":
        return scope_of(form[1], not wanted)
    if word == "if":
        return grouped(turned("or", wanted), [scope_of(form[1], not wanted), scope_of(form[2], wanted)])
    if word in ("and", "or"):
        return grouped(turned(word, wanted), [scope_of(form[1], wanted), scope_of(form[2], wanted)])
    if word in ("every", "some"):
        return reaching(turned(word, wanted), form[1], scope_of(form[2], wanted))
    return Fact(form, wanted)


def turned(word, wanted):
    """The word itself where a form should hold, else the one that it turns to."""
    return word if wanted else TURNED[word]


def inner_of(how, scope):
    """The scopes of a group of that word, or the scope alone."""
    if isinstance(scope, Group) and scope.how == how:
        return scope.inner
    return [scope]


def grouped(how, scopes):
    """A group of scopes; groups of the same word in it are dissolved, and a scope alone is itself."""
    inner = [one for scope in scopes for one in inner_of(how, scope)]
    return inner[0] if len(inner) == 1 else Group(how, inner)


def reaching(how, letter, scope):
    """Every or some, of a letter, over a scope, reaching no further than it must."""
    if letter not in scope.free:
        return scope
    if isinstance(scope, Reach) and scope.how == how:
        return within(how, letter, scope)
    if not isinstance(scope, Group):
        return Reach(how, letter, scope)
    if scope.how == SHARED[how]:
        return grouped(scope.how, [reaching(how, letter, one) for one in scope.inner])
    outside = [one for one in scope.inner if letter not in one.free]
    inside = [one for one in scope.inner if letter in one.free]
    if not outside:
        return Reach(how, letter, scope)
    return grouped(scope.how, [*outside, reaching(how, letter, grouped(scope.how, inside))])


def within(how, letter, reach):
    """Every around an every, or some around a some: the outer one goes inside where it reaches less there."""
    inner = reaching(how, letter, reach.inner)
    if isinstance(inner, Reach) and inner.letter == letter:
        return Reach(how, letter, reach)
    return reaching(how, reach.letter, inner)

"""Two arguments joined: what the one shows takes the place of a line that is given in the other."""

from linecourt.arguments import opened_names
from linecourt.checker import lets_by
from linecourt.errors import NoJoin
from linecourt.forms import called_anew
from linecourt.lines import is_given_line
from linecourt.newnames import Namer, new_name
from linecourt.reasons import is_line_number, moved, with_new_names

ONE = 0
OTHER = 1


def may_join(one, other, k):
    """Whether two arguments may be joined at line k of the other."""
    if not lets_by(one) or not lets_by(other) or one[:2] != other[:2]:
        return False
    first, second = one[2], other[2]
    if not is_line_number(k, len(second)) or not is_given_line(second[k - 1]) or is_given_line(second[-1]):
        return False
    return second[k - 1][1] == first[-1][1]


def anew(one, other):
    """The openers' names of the other that are the one's, too, each with the name that it is called by anew."""
    ones = opened_names(one[2])
    others = opened_names(other[2])
    namer = Namer([*one[0][0], *ones, *others])
    return {name: new_name(namer) for name in others if name in ones}


def named_anew(line, new):
    """A line, with other names in the place of those that are to be called anew."""
    level, form, reason = line
    return (level, called_anew(form, new), with_new_names(reason, new))


def given_and_rest(lines, which):
    """The places of the given lines, and those of the rest: which argument's they are, and their numbers."""
    givens = [(which, at + 1) for at, line in enumerate(lines) if is_given_line(line)]
    rest = [(which, at + 1) for at, line in enumerate(lines) if not is_given_line(line)]
    return givens, rest


def joined_order(first, second, k):
    """The places of all lines but line k of the other argument, in the order in which they are joined."""
    givens, rest = given_and_rest(first, ONE)
    other_givens, other_rest = given_and_rest(second, OTHER)
    return [*givens, *[place for place in other_givens if place != (OTHER, k)], *rest, *other_rest]


def joined(one, other, k):
    """The other argument, the one's lines showing what was given by line k; or NoJoin."""
    if not may_join(one, other, k):
        raise NoJoin(f"these can't be joined at line {k}")
    new = anew(one, other)
    lines = (one[2], [named_anew(line, new) for line in other[2]])
    order = joined_order(lines[ONE], lines[OTHER], k)
    numbers = {place: at + 1 for at, place in enumerate(order)}
    # What leant on line k leans on what shows it now.
    numbers[(OTHER, k)] = numbers[(ONE, len(lines[ONE]))]
    owns = [[numbers[(which, m + 1)] for m in range(len(lines[which]))] for which in (ONE, OTHER)]
    told = []
    for which, number in order:
        level, form, reason = lines[which][number - 1]
        told.append((level, form, moved(reason, owns[which])))
    return (*one[:2], tuple(told))

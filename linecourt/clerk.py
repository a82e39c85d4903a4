"""The clerk: what is reached in some steps, and by which rule a line is right."""

from linecourt.arguments import names_at
from linecourt.checker import is_right_by, new_case
from linecourt.forms import names_of
from linecourt.proofs import Search, proof_from
from linecourt.reasons import REASONS

# In the order in which they are tried.
PLAIN_RULES = (
    "again", "both", "left", "right", "orleft", "orright", "then", "absurd", "nothing", "at", "such", "put", "meaning",
    "asmany", "one", "two", "someof", "none", "nomore", "apart", "cover", "turned",
)
# The orders of so many places, as tuples are compared.
ORDERS = {
    1: ((0,),),
    2: ((0, 1), (1, 0)),
    3: ((0, 1, 2), (0, 2, 1), (1, 0, 2), (1, 2, 0), (2, 0, 1), (2, 1, 0)),
}


def reached(names, forms, goal, deep=4):
    """Whether a goal is reached from names and forms, in so many steps; or TooGreat."""
    taken = [*names, *[name for form in [*forms, goal] for name in names_of(form)]]
    return proof_from(Search(taken), names, forms, goal, deep) is not None


def reasons_by(word, ks, names):
    """The reasons of a word, of just these lines in each order, with each name where it asks for one."""
    told = []
    for order in ORDERS[len(ks)]:
        numbers = [ks[place] for place in order]
        if "N" in REASONS[word]:
            told.extend([(word, *numbers, name) for name in names])
        else:
            told.append((word, *numbers))
    return told


def plain_reason(case, k):
    """The first plain rule by which line k, with the reason by, is right; None where there is none."""
    ks = case.argument[2][k - 1][2][1]
    names = names_at(case.argument, k)
    for word in PLAIN_RULES:
        if REASONS[word].count("k") != len(ks):
            continue
        for reason in reasons_by(word, ks, names):
            if is_right_by(case, k, reason):
                return reason
    return None


def by_rule(argument, k):
    """The small reason by which line k, with the reason by, is right; None where there is none, or another reason."""
    if argument[2][k - 1][2][0] != "by":
        return None
    return plain_reason(new_case(argument, None), k)

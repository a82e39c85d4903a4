"""Arguments written out: each line with by or clearly filled with small reasons."""

from linecourt.arguments import names_at, opened_names
from linecourt.checker import form_of, is_right_line, new_case
from linecourt.clerk import plain_reason
from linecourt.errors import Lacks
from linecourt.lines import is_open
from linecourt.pools import number_of
from linecourt.proofs import Search, proof_from
from linecourt.reasons import moved
from linecourt.steps import Sheet, Spot, goal_reason

STEPS = 4


class Writing:
    """An argument that is being written out, the sheet that it is written on, and the new numbers of its lines."""

    def __init__(self, argument, earlier):
        self.case = new_case(argument, earlier)
        self.sheet = Sheet(Search([*argument[0][0], *opened_names(argument[2])]))
        self.numbers = []


def clear_reason(writing, k):
    """The reason of line k, clearly being its own, the steps to it being written; None where it isn't reached."""
    case = writing.case
    search = writing.sheet.search
    level, form = case.argument[2][k - 1][:2]
    ahead = [m for m in range(1, k) if is_open(case.openers, k, m)]
    forms = [form_of(case, m) for m in ahead]
    proof = proof_from(search, names_at(case.argument, k), forms, form, STEPS)
    if proof is None:
        return None
    at_hand = {}
    for m in ahead:
        at_hand.setdefault(number_of(search.pool, form_of(case, m)), writing.numbers[m - 1])
    return goal_reason(Spot(writing.sheet, level, at_hand), proof)


def old_reason(case, k):
    """The small reason of line k, by the old numbers; None where it isn't right."""
    reason = case.argument[2][k - 1][2]
    if reason[0] == "by":
        return plain_reason(case, k)
    return reason if is_right_line(case, k) else None


def small_reason(writing, k):
    """The small reason of line k, by the new numbers of the lines ahead; None where there is none."""
    if writing.case.argument[2][k - 1][2][0] == "clearly":
        return clear_reason(writing, k)
    reason = old_reason(writing.case, k)
    return None if reason is None else moved(reason, writing.numbers)


def write_line(writing, k):
    """Writes line k, with the steps to it, behind the lines ahead of it; or Lacks, TooGreat."""
    reason = small_reason(writing, k)
    if reason is None:
        raise Lacks(k)
    writing.sheet.lines.append((*writing.case.argument[2][k - 1][:2], reason))
    writing.numbers.append(len(writing.sheet.lines))


def written_of(writing):
    """The argument that has been written."""
    return (*writing.case.argument[:2], tuple(writing.sheet.lines))


def written_out(argument, earlier=None):
    """The argument with small reasons alone, and the new numbers of its lines; or Lacks, TooGreat."""
    writing = Writing(argument, earlier)
    for k in range(1, len(argument[2]) + 1):
        write_line(writing, k)
    return (written_of(writing), tuple(writing.numbers))

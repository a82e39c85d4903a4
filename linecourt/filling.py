"""Arguments written out: each line with by or clearly filled with small reasons."""

from linecourt.arguments import names_at, opened_names
from linecourt.checker import form_of, is_right_line, new_case
from linecourt.clerk import plain_reason
from linecourt.errors import Lacks
from linecourt.lines import is_open
from linecourt.pools import number_of
from linecourt.proofs import Search, proof_from
from linecourt.reasons import moved
from linecourt.steps import Sheet, Spot, goal_reason

STEPS = 4


def clear_reason(case, sheet, k, numbers):
    """The reason of line k, clearly being its own, the steps to it being written; None where it isn't reached."""
    search = sheet.search
    level, form = case.argument[2][k - 1][:2]
    ahead = [m for m in range(1, k) if is_open(case.openers, k, m)]
    forms = [form_of(case, m) for m in ahead]
    proof = proof_from(search, names_at(case.argument, k), forms, form, STEPS)
    if proof is None:
        return None
    at_hand = {}
    for m in ahead:
        at_hand.setdefault(number_of(search.pool, form_of(case, m)), numbers[m - 1])
    return goal_reason(Spot(sheet, level, at_hand), proof)


def old_reason(case, k):
    """The small reason of line k, by the old numbers; None where it isn't right."""
    reason = case.argument[2][k - 1][2]
    if reason[0] == "by":
        return plain_reason(case, k)
    return reason if is_right_line(case, k) else None


def small_reason(case, sheet, k, numbers):
    """The small reason of line k, by the new numbers of the lines ahead; None where there is none."""
    if case.argument[2][k - 1][2][0] == "clearly":
        return clear_reason(case, sheet, k, numbers)
    reason = old_reason(case, k)
    return None if reason is None else moved(reason, numbers)


def written_out(argument, earlier=None):
    """The argument with small reasons alone, and the new numbers of its lines; or Lacks, TooGreat."""
    vocabulary, meanings, lines = argument
    case = new_case(argument, earlier)
    sheet = Sheet(Search([*vocabulary[0], *opened_names(lines)]))
    numbers = []
    for k in range(1, len(lines) + 1):
        reason = small_reason(case, sheet, k, numbers)
        if reason is None:
            raise Lacks(k)
        sheet.lines.append((*lines[k - 1][:2], reason))
        numbers.append(len(sheet.lines))
    return ((vocabulary, meanings, tuple(sheet.lines)), tuple(numbers))

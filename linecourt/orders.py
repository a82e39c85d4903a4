"""Arguments renumbered by an order of their lines."""

from linecourt.checker import lets_by
from linecourt.errors import NoOrder
from linecourt.lines import how_many_given, is_given_line, picked
from linecourt.reasons import are_line_numbers


def is_order(lines, order):
    """Whether an order has all line numbers, each once, the last one last, the given ones first."""
    last = len(lines)
    if not are_line_numbers(order, last) or len(order) != last or len(set(order)) != last or order[-1] != last:
        return False
    return all(is_given_line(lines[number - 1]) for number in order[:how_many_given(lines)])


def renumbered(argument, order):
    """The argument with its lines in another order, their old numbers being told; or NoOrder."""
    vocabulary, meanings, lines = argument
    if not is_order(lines, order):
        raise NoOrder("this is no order of the argument's lines")
    told = (vocabulary, meanings, picked(lines, order))
    if not lets_by(told):
        raise NoOrder("in this order the argument isn't let by")
    return told

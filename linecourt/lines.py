"""Lines, their openers and boxes. A line is (level, form, reason); lines are numbered from 1."""

from linecourt.reasons import OPENERS, moved


def is_opener(line):
    """Whether a line opens a box."""
    return line[2][0] in OPENERS


def is_given_line(line):
    """Whether a line is given."""
    return line[2][0] == "given"


def how_many_given(lines):
    """How many lines are given."""
    return len([line for line in lines if is_given_line(line)])


def has_opener(lines, i):
    """Whether there is a line of a number, and it opens a box."""
    return 1 <= i <= len(lines) and is_opener(lines[i - 1])


def ends_box(line, level):
    """Whether a box whose opener has a level ends ahead of a line."""
    return line[0] < level or (line[0] == level and is_opener(line))


def box_of(lines, i):
    """The numbers of the first and the last line of the box of opener i; None of what is no opener."""
    if not has_opener(lines, i):
        return None
    last = i
    while last < len(lines) and not ends_box(lines[last], lines[i - 1][0]):
        last += 1
    return (i, last)


def all_openers(lines):
    """For each line, in order, its openers, the outermost first."""
    told = []
    around = []
    for at, line in enumerate(lines):
        around = [i for i in around if not ends_box(line, lines[i - 1][0])]
        if is_opener(line):
            around.append(at + 1)
        told.append(tuple(around))
    return told


def openers_at(lines, k):
    """The openers of the boxes that line k is in, the outermost first, itself last where it is one."""
    return all_openers(lines[:k])[-1]


def is_open(openers, k, m):
    """Whether line k is open to line m, by the openers of each line."""
    return 1 <= m < k and all(i in openers[k - 1] for i in openers[m - 1])


def open_to(lines, k):
    """The numbers of the lines to which line k is open, rising."""
    openers = all_openers(lines[:k])
    return tuple([m for m in range(1, k) if is_open(openers, k, m)])


def told_by(lines, i, k):
    """The number of the line that the box of opener i told, done for line k; None where it isn't done, or no opener."""
    box = box_of(lines, i)
    if box is None or not box[1] < k <= len(lines):
        return None
    level = lines[i - 1][0]
    if level != lines[k - 1][0] + 1 or lines[box[1] - 1][0] != level:
        return None
    own = openers_at(lines, k)
    if not all(other in own for other in openers_at(lines, i)[:-1]):
        return None
    return box[1]


def picked(lines, order):
    """The lines of some numbers, in their order, renumbered: they name none but such lines."""
    numbers = [0] * len(lines)
    for at, old in enumerate(order):
        numbers[old - 1] = at + 1
    return tuple([(*lines[old - 1][:2], moved(lines[old - 1][2], numbers)) for old in order])

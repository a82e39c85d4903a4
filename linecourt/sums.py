"""Sums of counts: put together, and compared kind by kind."""


def sum_of(totals):
    """Some sums together: one sum."""
    times = {}
    number = 0
    for parts, more in totals:
        number += more
        for kind, often in parts:
            times[kind] = times.get(kind, 0) + often
    return (tuple([(kind, times[kind]) for kind in sorted(times)]), number)


def sum_of_kind(kind):
    """The sum of a kind alone."""
    return (((kind, 1),), 0)


def so_often(total, often):
    """The parts and the number of a sum, so many times; of no time it is a sum but for its times of 0."""
    parts, number = total
    return (tuple([(kind, times * often) for kind, times in parts]), number * often)


def no_less(one, other):
    """Whether a sum has no less of each kind, and no less a number, than the other one."""
    times = dict(one[0])
    return one[1] >= other[1] and all(times.get(kind, 0) >= often for kind, often in other[0])


def summed(form, forms, times):
    """Whether a form S >= T follows from such forms, each so many times together."""
    if len(forms) != len(times) or any(often < 0 for often in times):
        return False
    if form[0] != "least" or any(one[0] != "least" for one in forms):
        return False
    # S less T against the others' S less T: what is taken away on one side is put in on the other.
    ones = [so_often(one[1], often) for one, often in zip(forms, times)]
    others = [so_often(one[2], often) for one, often in zip(forms, times)]
    return no_less(sum_of([form[1], *others]), sum_of([form[2], *ones]))

"""Whole numbers, and rows that rise."""


def is_whole(thing):
    """Whether a thing is an int that is no truth."""
    return isinstance(thing, int) and not isinstance(thing, bool)


def is_whole_from(thing, least):
    """Whether a thing is a whole number from the least on."""
    return is_whole(thing) and thing >= least


def rises(row):
    """Whether each thing of a row is less than the next: so none stands twice."""
    return all(one < other for one, other in zip(row, row[1:]))


def power(base, times):
    """A whole number so many times with itself, times from 0 on."""
    told = 1
    square = base
    left = times
    while left > 0:
        if left & 1:
            told = told * square
        left = left >> 1
        if left > 0:
            square = square * square
    return told


def powers_up_to(most, times):
    """The numbers from 1 to the most, each so many times with itself, all together; the most from 0 on."""
    # By differences: a great number is not gone through one by one.
    row = [power(base, times) for base in range(1, times + 2)]
    told = 0
    ways = most
    for at in range(times + 1):
        told += row[0] * ways
        row = [other - one for one, other in zip(row, row[1:])]
        ways = ways * (most - at - 1) // (at + 2)
    return told

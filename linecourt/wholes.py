"""Whole numbers, and rows that rise."""


def is_whole(thing):
    """Whether a thing is an int that is no truth."""
    return isinstance(thing, int) and not isinstance(thing, bool)


def is_whole_from(thing, least):
    """Whether a thing is a whole number from the least on."""
    return is_whole(thing) and thing >= least


def rises(row):
    """Whether each thing of a row is less than the next: so none stands twice."""
    return all(one < other for one, other in zip(row, row[1:]))


def power(base, times):
    """A whole number so many times with itself, times from 0 on."""
    told = 1
    square = base
    left = times
    while left > 0:
        if left & 1:
            told = told * square
        left = left >> 1
        if left > 0:
            square = square * square
    return told

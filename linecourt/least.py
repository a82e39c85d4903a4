"""The least givens from which a goal is reached."""

from linecourt.clerk import reached
from linecourt.errors import Lacks


def least_givens(names, forms, goal):
    """The numbers, from 0 on, of the forms that can't be left out, gone through from the last; or Lacks, TooGreat."""
    if not reached(names, forms, goal):
        raise Lacks(0)
    stay = list(range(len(forms)))
    for number in range(len(forms) - 1, -1, -1):
        others = [one for one in stay if one != number]
        if reached(names, tuple([forms[one] for one in others]), goal):
            stay = others
    return tuple(stay)

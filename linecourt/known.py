"""What is known from some names and forms, in three rounds."""

from linecourt.errors import TooGreat
from linecourt.forms import FALSE
from linecourt.pools import Pool, case_number, number_of

ROUNDS = 3
MOST_KNOWN = 200


def given_by(pool, names, known, number):
    """What a known form gives by its own word: the numbers of forms, each with how it comes."""
    row = pool.rows[number]
    if row[0] == "and":
        return [(row[1], ("left", number)), (row[2], ("right", number))]
    if row[0] == "if" and row[1] in known:
        return [(row[2], ("then", number, row[1]))]
    if row[0] == "every":
        return [(case_number(pool, number, name), ("at", number, name)) for name in names]
    return []


def clash_in(pool, known):
    """How false comes of the first known form whose not is known, too; else None."""
    for number in known:
        row = pool.rows[number]
        if row[0] == "not" and row[1] in known:
            return ("absurd", row[1], number)
    return None


def next_round(pool, names, known):
    """What is known behind a round, of what was known ahead of it."""
    told = {number: known[number] for number in known}
    for number in known:
        for new, how in given_by(pool, names, known, number):
            told.setdefault(new, how)
    clash = clash_in(pool, known)
    if clash is not None:
        told.setdefault(number_of(pool, FALSE), clash)
    return told


def all_known(pool, names, numbers):
    """What is known, as numbers of a pool's forms, in order, each with how it comes: None of those that it comes from.

    How it comes is the word of a rule, the numbers of the forms that it asks for, and its name, if it asks for one.
    """
    known = {number: None for number in numbers}
    for turn in range(ROUNDS):
        known = next_round(pool, names, known)
        if len(known) > MOST_KNOWN:
            raise TooGreat(len(known), MOST_KNOWN)
    return known


def known_from(names, forms):
    """What is known from some names and forms, in the order in which it comes; or TooGreat."""
    pool = Pool()
    known = all_known(pool, names, [number_of(pool, form) for form in forms])
    return tuple([pool.forms[number] for number in known])

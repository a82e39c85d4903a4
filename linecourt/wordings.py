"""Sentences without sentences in them: their wordings, and the forms that these are read to."""

from linecourt.sumtexts import is_number_text, read_least

# The letters for every, some and no of a kind, in the order in which they are taken.
TAKEN_LETTERS = ("x", "y", "z", "u", "v", "w")
QUANTIFIERS = ("every", "some", "no")


def kind_sum(kind, number):
    """The sum of a kind, once, and a number."""
    return (((kind, 1),), number)


def said_of(word, letter, kind, said):
    """What is said of every, some or no thing of a kind, the letter standing for it."""
    named = ("is", letter, kind)
    if word == "some":
        return ("some", letter, ("and", named, said))
    if word == "no":
        return ("every", letter, ("if", named, ("not", said)))
    return ("every", letter, ("if", named, said))


def read_absurd(told, letters):
    return [("false",)]


def read_is(told, letters):
    return [("is", told[0], told[1])]


def read_is_not(told, letters):
    return [("not", ("is", told[0], told[1]))]


def read_same(told, letters):
    return [("same", told[0], told[1])]


def read_not_same(told, letters):
    return [("not", ("same", told[0], told[1]))]


def read_does(told, letters):
    return [("does", told[1], told[0], told[2])]


def read_does_not(told, letters):
    return [("not", ("does", told[1], told[0], told[2]))]


def read_kind_is(told, letters):
    word, kind, other = told
    return [said_of(word, letter, kind, ("is", letter, other)) for letter in letters[:1]]


def read_kind_is_not(told, letters):
    word, kind, other = told
    return [said_of(word, letter, kind, ("not", ("is", letter, other))) for letter in letters[:1]]


def read_kind_does(told, letters):
    word, kind, doing, term = told
    return [said_of(word, letter, kind, ("does", doing, letter, term)) for letter in letters[:1]]


def read_does_kind(told, letters):
    term, doing, word, kind = told
    return [said_of(word, letter, kind, ("does", doing, term, letter)) for letter in letters[:1]]


def read_kind_does_kind(told, letters):
    """Two readings where the two words are unlike: either one can be around the other."""
    if len(letters) < 2:
        return []
    word, kind, doing, second, other = told
    one, two = letters[0], letters[1]
    said = ("does", doing, one, two)
    first_around = said_of(word, one, kind, said_of(second, two, other, said))
    if word == second:
        return [first_around]
    return [first_around, said_of(second, two, other, said_of(word, one, kind, said))]


def read_as_many_at_least(told, letters):
    return [("least", kind_sum(told[0], 0), kind_sum(told[1], 0))]


def read_more(told, letters):
    return [("least", kind_sum(told[0], 0), kind_sum(told[1], 1))]


def read_as_many(told, letters):
    one, other = kind_sum(told[0], 0), kind_sum(told[1], 0)
    return [("and", ("least", one, other), ("least", other, one))]


def read_number(told, letters):
    return [("least", kind_sum(told[1], 0), ((), int(told[0])))]


# T stands for a term, K a kind, D a doing, Q one of every, some, no, N a number; the rest for itself.
WORDINGS = (
    (("absurd",), read_absurd),
    (("T", "is", "a", "K"), read_is),
    (("T", "is", "not", "a", "K"), read_is_not),
    (("T", "is", "T"), read_same),
    (("T", "is", "not", "T"), read_not_same),
    (("T", "D", "T"), read_does),
    (("T", "not", "D", "T"), read_does_not),
    (("Q", "K", "is", "a", "K"), read_kind_is),
    (("Q", "K", "is", "not", "a", "K"), read_kind_is_not),
    (("Q", "K", "D", "T"), read_kind_does),
    (("T", "D", "Q", "K"), read_does_kind),
    (("Q", "K", "D", "Q", "K"), read_kind_does_kind),
    (("there", "are", "at", "least", "as", "many", "K", "as", "K"), read_as_many_at_least),
    (("there", "are", "more", "K", "than", "K"), read_more),
    (("there", "are", "as", "many", "K", "as", "K"), read_as_many),
    (("there", "are", "at", "least", "N", "K"), read_number),
)
PLACES = ("T", "K", "D", "Q", "N")


def stands_at(place, word, vocabulary, bound):
    """Whether a word may stand at a place of a wording."""
    names, kinds, doings = vocabulary
    if place == "T":
        return word in names or word in bound
    if place == "K":
        return word in kinds
    if place == "D":
        return word in doings
    if place == "Q":
        return word in QUANTIFIERS
    if place == "N":
        return is_number_text(word)
    return word == place


def simple_forms(words, vocabulary, bound):
    """The forms of a row of words by the wordings, and as one sum that is at least another one."""
    letters = [letter for letter in TAKEN_LETTERS if letter not in bound]
    told = []
    for wording, read in WORDINGS:
        if len(wording) == len(words):
            if all(stands_at(place, word, vocabulary, bound) for place, word in zip(wording, words)):
                chosen = [word for place, word in zip(wording, words) if place in PLACES]
                told.extend(read(chosen, letters))
    least = read_least(words, vocabulary[1])
    if least is not None:
        told.append(least)
    return told

"""The rules of counts: what forms of kinds tell of how many there are, and the other way about."""

from linecourt.forms import all_pieces
from linecourt.reasons import REASONS
from linecourt.sums import sum_of, sum_of_kind
from linecourt.words import is_name


def letter_of(form):
    """The letter of a form of every or some, else None, with which no form can be made again."""
    return form[1] if form[0] in ("every", "some") else None


def every_if(x, one, other):
    """Every x: if the one then the other."""
    return ("every", x, ("if", one, other))


def none_is(x, kind):
    """Every x is no such kind."""
    return ("every", x, ("not", ("is", x, kind)))


def either(x, one, other):
    """x is of the one kind or of the other."""
    return ("or", ("is", x, one), ("is", x, other))


def number_alone(number):
    """The sum that is a number alone."""
    return ((), number)


def both_kinds(one, other):
    """The sum of two kinds."""
    return sum_of([sum_of_kind(one), sum_of_kind(other)])


def one_more(total):
    """A sum and one."""
    return sum_of([total, number_alone(1)])


def is_as_many(form, forms):
    """L >= K, of all K are L."""
    kinds = all_pieces(forms[0], "k")
    if len(kinds) != 2:
        return False
    x = letter_of(forms[0])
    if forms[0] != every_if(x, ("is", x, kinds[0]), ("is", x, kinds[1])):
        return False
    return form == ("least", sum_of_kind(kinds[1]), sum_of_kind(kinds[0]))


def is_one(form, forms):
    """K >= 1, of N is a K."""
    if forms[0][0] != "is" or not is_name(forms[0][1]):
        return False
    return form == ("least", sum_of_kind(forms[0][2]), number_alone(1))


def is_two(form, forms):
    """K >= 2, of N is a K, O is a K, not ( N is O )."""
    one, other, apart = forms
    if one[0] != "is" or other[0] != "is" or one[2] != other[2]:
        return False
    if not is_name(one[1]) or not is_name(other[1]) or apart != ("not", ("same", one[1], other[1])):
        return False
    return form == ("least", sum_of_kind(one[2]), number_alone(2))


def is_some_of(form, forms):
    """Some x is a K, of K >= 1."""
    kinds = all_pieces(form, "k")
    if len(kinds) != 1:
        return False
    x = letter_of(form)
    if form != ("some", x, ("is", x, kinds[0])):
        return False
    return forms[0] == ("least", sum_of_kind(kinds[0]), number_alone(1))


def no_kind_counts(none, count):
    """Whether the one form is every x is no K, and the other 0 >= K."""
    kinds = all_pieces(none, "k")
    if len(kinds) != 1 or none != none_is(letter_of(none), kinds[0]):
        return False
    return count == ("least", number_alone(0), sum_of_kind(kinds[0]))


def is_none(form, forms):
    """0 >= K, of every x is no K."""
    return no_kind_counts(forms[0], form)


def is_no_more(form, forms):
    """Every x is no K, of 0 >= K."""
    return no_kind_counts(form, forms[0])


def is_apart(form, forms):
    """M >= K + L, of no K is a L, and all K and all L are M."""
    kinds = all_pieces(forms[1], "k")
    if len(kinds) != 3:
        return False
    one, other, whole = kinds
    x, y = letter_of(forms[0]), letter_of(forms[1])
    if forms[0] != every_if(x, ("is", x, one), ("not", ("is", x, other))):
        return False
    if forms[1] != every_if(y, either(y, one, other), ("is", y, whole)):
        return False
    return form == ("least", sum_of_kind(whole), both_kinds(one, other))


def is_cover(form, forms):
    """K + L >= M, of all M are K or L."""
    kinds = all_pieces(forms[0], "k")
    if len(kinds) != 3:
        return False
    whole, one, other = kinds
    x = letter_of(forms[0])
    if forms[0] != every_if(x, ("is", x, whole), either(x, one, other)):
        return False
    return form == ("least", both_kinds(one, other), sum_of_kind(whole))


def is_turned(form, forms):
    """T >= S + 1, of not ( S >= T ); not ( T >= S + 1 ), of S >= T."""
    old = forms[0]
    if old[0] == "least":
        return form == ("not", ("least", old[2], one_more(old[1])))
    if old[0] == "not" and old[1][0] == "least":
        return form == ("least", old[1][2], one_more(old[1][1]))
    return False


COUNT_RULES = {
    "asmany": is_as_many,
    "one": is_one,
    "two": is_two,
    "someof": is_some_of,
    "none": is_none,
    "nomore": is_no_more,
    "apart": is_apart,
    "cover": is_cover,
    "turned": is_turned,
}


def counted(word, form, forms):
    """Whether a form follows by a word of counts from the forms J, K, M."""
    if word not in COUNT_RULES or len(forms) != REASONS[word].count("k"):
        return False
    rule = COUNT_RULES[word]
    return rule(form, forms)

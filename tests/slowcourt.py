"""A slow court of the tests' own, from the words of the document: by written texts, and by making all that may follow."""

import functools
import itertools

from linecourt.formtexts import show_form
from tests.making import FALSE, put, ways_to_put
from tests.test_lines import slow_open_to, slow_openers, slow_told_by

ALL_LETTERS = tuple(letter + figure for letter in "uvwxyz" for figure in ("",) + tuple("0123456789"))
PLAIN = (
    "again both left right orleft orright then absurd nothing at such put meaning asmany one two someof none nomore apart "
    "cover turned"
).split()
MANY = {
    "again": 1, "itself": 0, "both": 2, "left": 1, "right": 1, "orleft": 1, "orright": 1, "then": 2, "absurd": 2, "nothing": 1,
    "at": 1, "such": 1, "put": 2, "meaning": 1, "asmany": 1, "one": 1, "two": 3, "someof": 1, "none": 1, "nomore": 1, "apart": 2,
    "cover": 1, "turned": 1,
}


@functools.lru_cache(maxsize=100000)
def text(form):
    return show_form(form)


def slow_follows(word, form, forms, name=None):
    if len(forms) != MANY[word]:
        return False
    told = [text(one) for one in forms]
    if word == "again":
        return text(form) == told[0]
    if word == "itself":
        return len(text(form).split(" ")) == 3 and form[0] == "same" and len(set(form[1:])) == 1
    if word == "both":
        return text(form) == f"( {told[0]} ) and ( {told[1]} )"
    if word in ("left", "right"):
        side = {"left": 1, "right": 2}[word]
        return forms[0][0] == "and" and told[0] == text(("and",) + forms[0][1:side] + (form,) + forms[0][side + 1:])
    if word == "orleft":
        return form[0] == "or" and text(form).startswith(f"( {told[0]} ) or (") and form[1] == forms[0]
    if word == "orright":
        return form[0] == "or" and text(form).endswith(f") or ( {told[0]} )") and form[2] == forms[0]
    if word == "then":
        return told[0] == f"if ( {told[1]} ) then ( {text(form)} )"
    if word == "absurd":
        return text(form) == "absurd" and told[1] == f"not ( {told[0]} )"
    if word == "nothing":
        return told[0] == "absurd"
    if word == "at":
        return forms[0][0] == "every" and text(put(forms[0][2], forms[0][1], name)) == text(form)
    if word == "such":
        return form[0] == "some" and text(put(form[2], form[1], name)) == told[0]
    return forms[0][0] == "same" and form in ways_to_put(forms[1], *forms[0][1:])


def plus(one, other):
    """A text of two kinds' sum."""
    return f"2 {one}" if one == other else " + ".join(sorted((one, other)))


def slow_counted(word, form, forms, kinds):
    """Made from all kinds and letters: whether the texts are as told."""
    if len(forms) != MANY[word]:
        return False
    told, shown = [text(one) for one in forms], text(form)
    letter = {one: "x" for one in told + [shown]}
    for one in told + [shown]:
        words = one.split(" ")
        if words[0] in ("every", "some"):
            letter[one] = words[1]
    x, y = letter[told[0]], letter[told[-1]]
    if word == "asmany":
        return any(
            told == [f"every {x} ( if ( {x} is a {k} ) then ( {x} is a {l} ) )"] and shown == f"{l} >= {k}"
            for k in kinds for l in kinds)
    if word == "one":
        n = told[0].split(" ")[0]
        return n.istitle() and any(told[0] == f"{n} is a {k}" and shown == f"{k} >= 1" for k in kinds)
    if word == "two":
        n, o = (one.split(" ")[0] for one in told[:2])
        return n.istitle() and o.istitle() and any(
            told == [f"{n} is a {k}", f"{o} is a {k}", f"not ( {n} is {o} )"] and shown == f"{k} >= 2" for k in kinds)
    if word == "someof":
        x = letter[shown]
        return any(told == [f"{k} >= 1"] and shown == f"some {x} ( {x} is a {k} )" for k in kinds)
    if word in ("none", "nomore"):
        rows = [told[0], shown] if word == "none" else [shown, told[0]]
        x = letter[rows[0]]
        return any(rows == [f"every {x} ( not ( {x} is a {k} ) )", f"0 >= {k}"] for k in kinds)
    if word == "apart":
        return any(
            told == [
                f"every {x} ( if ( {x} is a {k} ) then ( not ( {x} is a {l} ) ) )",
                f"every {y} ( if ( ( {y} is a {k} ) or ( {y} is a {l} ) ) then ( {y} is a {m} ) )",
            ] and shown == f"{m} >= {plus(k, l)}"
            for k in kinds for l in kinds for m in kinds)
    if word == "cover":
        return any(
            told == [f"every {x} ( if ( {x} is a {m} ) then ( ( {x} is a {k} ) or ( {x} is a {l} ) ) )"]
            and shown == f"{plus(k, l)} >= {m}"
            for k in kinds for l in kinds for m in kinds)
    return form == slow_turned(forms[0])


def slow_turned(form):
    if form[0] == "least":
        (parts, number), other = form[1:]
        return ("not", ("least", other, (parts, number + 1)))
    if form[0] == "not" and form[1][0] == "least":
        (parts, number), other = form[1][1:]
        return ("least", other, (parts, number + 1))
    return None


def less(form):
    """S less T of S >= T, kind by kind, the number under None."""
    told = {None: form[1][1] - form[2][1]}
    for sign, (parts, _) in ((1, form[1]), (-1, form[2])):
        for kind, times in parts:
            told[kind] = told.get(kind, 0) + sign * times
    return told


def slow_summed(form, forms, times):
    if any(one[0] != "least" for one in (form,) + tuple(forms)):
        return False
    rows = [less(one) for one in forms]
    own = less(form)
    kinds = set(own).union(*rows)
    return all(own.get(kind, 0) >= sum(row.get(kind, 0) * often for row, often in zip(rows, times)) for kind in kinds)


def slow_boxed(argument, k):
    lines = argument[2]
    level, form, reason = lines[k - 1]
    word, rest = reason[0], reason[1:]

    def told(i, opener):
        """What box i told, if it is done for the line and its opener has the word; else None."""
        last = slow_told_by(lines, i, k)
        return lines[last - 1][1] if last is not None and lines[i - 1][2][0] == opener else None

    if word == "supposed":
        return True
    if word == "any":
        return text(form) == f"{rest[0]} is {rest[0]}"
    if word == "called":
        whole = lines[rest[1] - 1][1]
        return rest[1] in slow_open_to(lines, k) and whole[0] == "some" and put(whole[2], whole[1], rest[0]) == form
    if word in ("soif", "not", "contrary"):
        inner, supposed = told(rest[0], "supposed"), lines[rest[0] - 1][1]
        wanted = {
            "soif": (("if", supposed, inner), inner), "not": (("not", supposed), FALSE), "contrary": (form, FALSE)}[word]
        return inner is not None and (form, inner) == wanted and (word != "contrary" or supposed == ("not", form))
    if word == "cases":
        m, i, n = rest
        whole = ("or", lines[i - 1][1], lines[n - 1][1])
        return m in slow_open_to(lines, k) and lines[m - 1][1] == whole and {told(i, "supposed"), told(n, "supposed")} == {form}
    if word == "forany":
        inner = told(rest[0], "any")
        return inner is not None and form[0] == "every" and put(form[2], form[1], lines[rest[0] - 1][2][1]) == inner
    return told(rest[0], "called") == form


def slow_names(argument, k):
    lines = argument[2]
    opened = [lines[i - 1][2] for i in slow_openers(lines, k)]
    return argument[0][0] + tuple(reason[1] for reason in opened if reason[0] != "supposed")


def slow_unfolded(meanings, form):
    """The last meaning is put in place first: what it brings in are the meanings ahead of it."""
    for kind, x, inner in reversed(meanings):
        form = slow_in_place(kind, x, inner, form)
    return form


def slow_in_place(kind, x, inner, form):
    if form[0] == "is":
        return put(inner, x, form[1]) if form[2] == kind else form
    if form[0] == "least":
        return form
    return form[:1] + tuple(slow_in_place(kind, x, inner, one) if isinstance(one, tuple) else one for one in form[1:])


def slow_right(argument, k, earlier=()):
    """Whether line k is right; earlier ones are known to be let by."""
    vocabulary, meanings, lines = argument
    level, form, reason = lines[k - 1]
    return slow_right_by(argument, k, reason, earlier)


def slow_right_by(argument, k, reason, earlier=()):
    vocabulary, meanings, lines = argument
    level, form = lines[k - 1][:2]
    word, rest = reason[0], reason[1:]
    if word == "given":
        return level == 0 and all(line[2] == ("given",) for line in lines[:k])
    if word in ("supposed", "any", "called", "soif", "not", "contrary", "cases", "forany", "forsome"):
        return slow_boxed(argument, k)
    numbers = [piece for piece in rest if isinstance(piece, int)]
    if word in ("earlier", "sums", "by"):
        numbers = [number for number in rest[1 if word == "earlier" else 0]]
    if not set(numbers) <= set(slow_open_to(lines, k)):
        return False
    forms = tuple(lines[number - 1][1] for number in numbers)
    if word == "sums":
        return slow_summed(form, forms, rest[1])
    if word == "earlier":
        told = [one for name, one in earlier if name == rest[0]]
        return bool(told) and told[0][:2] == argument[:2] and forms + (form,) == tuple(
            line[1] for line in told[0][2] if line[2] == ("given",)) + (told[0][2][-1][1],)
    if word == "meaning":
        return slow_unfolded(meanings, form) == slow_unfolded(meanings, forms[0])
    if word in ("at", "such"):
        return rest[1] in slow_names(argument, k) and slow_follows(word, form, forms, rest[1])
    if word in ("by", "clearly"):
        return False
    if word in PLAIN[:PLAIN.index("meaning")] or word == "itself":
        return slow_follows(word, form, forms)
    return slow_counted(word, form, forms, vocabulary[1])


def slow_by_rule(argument, k):
    lines = argument[2]
    ks = lines[k - 1][2][1]
    for word in PLAIN:
        if MANY[word] != len(ks):
            continue
        for order in itertools.permutations(range(len(ks))):
            numbers = tuple(ks[place] for place in order)
            for name in slow_names(argument, k) if word in ("at", "such") else (None,):
                reason = (word,) + numbers + ((name,) if name else ())
                if slow_right_by(argument, k, reason):
                    return reason
    return None

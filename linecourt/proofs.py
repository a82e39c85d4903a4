"""How a goal is reached from names and forms, in some steps."""

from linecourt.forms import FALSE
from linecourt.known import all_known
from linecourt.newnames import Namer, new_name
from linecourt.pools import Pool, case_number, number_of


class Search:
    """What all that is asked for one argument has in common: the forms, and the new names."""

    def __init__(self, taken):
        self.pool = Pool()
        self.false = number_of(self.pool, FALSE)
        self.namer = Namer(taken)


class Scene:
    """Names and forms (by their numbers) from which goals are reached, and what is known from them."""

    def __init__(self, search, names, numbers):
        self.names = names
        self.numbers = numbers
        self.known = all_known(search.pool, names, numbers)


class Proof:
    """How a goal is reached: by the word of a rule, from other goals; or by what is known in its scene."""

    def __init__(self, how, goal, inner, scene, name):
        self.how = how
        self.goal = goal
        self.inner = inner
        self.scene = scene
        self.name = name


def proof_by(how, goal, inner, scene, name=None):
    """How a goal is reached from others; None where one of these isn't reached."""
    if any(proof is None for proof in inner):
        return None
    return Proof(how, goal, inner, scene, name)


def prove_and(search, scene, goal, deep):
    """Both are reached."""
    one, other = search.pool.rows[goal][1:]
    first = proof_of(search, scene, one, deep)
    # The other one is asked only where it is needed: asking may be refused.
    if first is None:
        return None
    return proof_by("both", goal, [first, proof_of(search, scene, other, deep)], scene)


def prove_or(search, scene, goal, deep):
    """The first is reached, else the other."""
    one, other = search.pool.rows[goal][1:]
    first = proof_of(search, scene, one, deep)
    if first is not None:
        return proof_by("orleft", goal, [first], scene)
    return proof_by("orright", goal, [proof_of(search, scene, other, deep)], scene)


def prove_some(search, scene, goal, deep):
    """The form is reached with one of the names, tried in order."""
    for name in scene.names:
        proof = proof_of(search, scene, case_number(search.pool, goal, name), deep)
        if proof is not None:
            return proof_by("such", goal, [proof], scene, name)
    return None


def prove_if(search, scene, goal, deep):
    """The then is reached from the forms and the if."""
    one, other = search.pool.rows[goal][1:]
    within = Scene(search, scene.names, [*scene.numbers, one])
    return proof_by("soif", goal, [proof_of(search, within, other, deep)], within)


def prove_not(search, scene, goal, deep):
    """False is reached from the forms and what should not be."""
    within = Scene(search, scene.names, [*scene.numbers, search.pool.rows[goal][1]])
    return proof_by("not", goal, [proof_of(search, within, search.false, deep)], within)


def prove_every(search, scene, goal, deep):
    """The form is reached with a new name."""
    name = new_name(search.namer)
    itself = number_of(search.pool, ("same", name, name))
    within = Scene(search, (*scene.names, name), [*scene.numbers, itself])
    inner = proof_of(search, within, case_number(search.pool, goal, name), deep)
    return proof_by("forany", goal, [inner], within, name)


WAYS = {
    "and": prove_and,
    "or": prove_or,
    "some": prove_some,
    "if": prove_if,
    "not": prove_not,
    "every": prove_every,
}


def proof_of(search, scene, goal, deep):
    """How a goal is reached in a scene, in so many steps; None where it isn't."""
    if goal in scene.known or search.false in scene.known:
        return Proof("known", goal, [], scene, None)
    word = search.pool.rows[goal][0]
    if deep < 1 or word not in WAYS:
        return None
    way = WAYS[word]
    return way(search, scene, goal, deep - 1)


def proof_from(search, names, forms, goal, deep):
    """How a goal, a form, is reached from names and forms, in so many steps; None where it isn't."""
    scene = Scene(search, names, [number_of(search.pool, form) for form in forms])
    return proof_of(search, scene, number_of(search.pool, goal), deep)

"""Which closed forms hold in a world, and what a sum comes to there."""

from linecourt.scopes import Fact, Group, scope_of

# In a world of so few things all are tried: choosing among them would take longer.
FEW = 4


class Sight:
    """A world, laid out for being asked, with meanings by their kinds, and what has been found out of it."""

    def __init__(self, world, meanings):
        many, names, kinds, doings = world
        self.world = world
        self.many = many
        self.names = dict(names)
        self.kinds = {kind: {thing: True for thing in things} for kind, things in kinds}
        self.doings = {doing: {pair: True for pair in pairs} for doing, pairs in doings}
        self.marked = marked_things(world) if many > FEW else {}
        self.meanings = meanings
        self.of_meanings = {}
        self.found = {}


def marked_things(world):
    """The things of which a world tells anything: those with a name, of a kind, or in a pair of a doing."""
    names, kinds, doings = world[1:]
    told = [thing for name, thing in names]
    told.extend([thing for kind, things in kinds for thing in things])
    told.extend([thing for doing, pairs in doings for pair in pairs for thing in pair])
    return {thing: True for thing in told}


def scopes_of_meanings(meanings):
    """The meanings by their kinds: the letter, and what has to hold."""
    return {kind: (x, scope_of(form, True)) for kind, x, form in meanings}


def count_of(world, total):
    """What a sum comes to in a world."""
    parts, number = total
    sizes = {kind: len(things) for kind, things in world[2]}
    return number + sum([times * sizes[kind] for kind, times in parts])


def holds(world, form):
    """Whether a closed form holds in a world."""
    return scope_holds(Sight(world, {}), scope_of(form, True), {})


def scope_holds(sight, scope, places):
    """Whether a scope holds, where its free letters stand for the things at their places."""
    if isinstance(scope, Fact):
        return fact_holds(sight, scope.form, places) == scope.wanted
    if isinstance(scope, Group):
        return group_holds(sight, scope, places)
    return reach_holds(sight, scope, places)


def group_holds(sight, group, places):
    """Whether all scopes of a group hold, or one of them."""
    wanted = group.how == "and"
    for scope in group.inner:
        if scope_holds(sight, scope, places) != wanted:
            return not wanted
    return wanted


def reach_holds(sight, reach, places):
    """Whether a scope holds of every thing, or of some; each is found out once for the same things."""
    key = (reach, tuple([places[letter] for letter in reach.free]))
    if key not in sight.found:
        sight.found[key] = new_reach_holds(sight, reach, places)
    return sight.found[key]


def new_reach_holds(sight, reach, places):
    """Whether a scope holds of every thing, or of some, where that has not been found out yet."""
    wanted = reach.how == "every"
    for thing in tried_things(sight, reach, places):
        if scope_holds(sight, reach.inner, {**places, reach.letter: thing}) != wanted:
            return not wanted
    return wanted


def tried_things(sight, reach, places):
    """The things to go through for every or some: of those that neither the world nor a letter marks, one will do."""
    if sight.many <= FEW:
        return list(range(sight.many))
    told = dict(sight.marked)
    for letter in reach.free:
        told[places[letter]] = True
    other = 0
    while other in told:
        other += 1
    if other < sight.many:
        told[other] = True
    return list(told)


def is_of_kind(sight, thing, kind):
    """Whether a thing is of a kind of the world, or of a meaning's kind; this is found out once for each thing."""
    if kind in sight.kinds:
        return thing in sight.kinds[kind]
    if (kind, thing) not in sight.of_meanings:
        x, scope = sight.meanings[kind]
        sight.of_meanings[(kind, thing)] = scope_holds(sight, scope, {x: thing})
    return sight.of_meanings[(kind, thing)]


def thing_of(sight, term, places):
    """The thing that a name or a letter stands for."""
    if term in places:
        return places[term]
    return sight.names[term]


def fact_holds(sight, form, places):
    """Whether a form without forms in it holds."""
    word = form[0]
    if word == "false":
        return False
    if word == "least":
        return count_of(sight.world, form[1]) >= count_of(sight.world, form[2])
    if word == "is":
        return is_of_kind(sight, thing_of(sight, form[1], places), form[2])
    if word == "same":
        return thing_of(sight, form[1], places) == thing_of(sight, form[2], places)
    pair = (thing_of(sight, form[2], places), thing_of(sight, form[3], places))
    return pair in sight.doings[form[1]]

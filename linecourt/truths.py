"""Which closed forms hold in a world, and what a sum comes to there."""

from linecourt.scopes import Fact, Group, scope_of


class Sight:
    """A world, laid out for being asked, and what has been found out of it."""

    def __init__(self, world):
        many, names, kinds, doings = world
        self.world = world
        self.many = many
        self.names = dict(names)
        self.kinds = {kind: {thing: True for thing in things} for kind, things in kinds}
        self.doings = {doing: {pair: True for pair in pairs} for doing, pairs in doings}
        self.found = {}


def count_of(world, total):
    """What a sum comes to in a world."""
    parts, number = total
    sizes = {kind: len(things) for kind, things in world[2]}
    return number + sum([times * sizes[kind] for kind, times in parts])


def holds(world, form):
    """Whether a closed form holds in a world."""
    return scope_holds(Sight(world), scope_of(form, True), {})


def things_of(world, x, form):
    """The things of a world of which a form holds, x being its free letter, if it has one; rising."""
    sight = Sight(world)
    scope = scope_of(form, True)
    return tuple([thing for thing in range(sight.many) if scope_holds(sight, scope, {x: thing})])


def scope_holds(sight, scope, places):
    """Whether a scope holds, where its free letters stand for the things at their places."""
    if isinstance(scope, Fact):
        return fact_holds(sight, scope.form, places) == scope.wanted
    if isinstance(scope, Group):
        return group_holds(sight, scope, places)
    return reach_holds(sight, scope, places)


def group_holds(sight, group, places):
    """Whether all scopes of a group hold, or one of them."""
    wanted = group.how == "and"
    for scope in group.inner:
        if scope_holds(sight, scope, places) != wanted:
            return not wanted
    return wanted


def reach_holds(sight, reach, places):
    """Whether a scope holds of every thing, or of some; each is found out once for the same things."""
    key = (reach, tuple([places[letter] for letter in reach.free]))
    if key not in sight.found:
        sight.found[key] = new_reach_holds(sight, reach, places)
    return sight.found[key]


def new_reach_holds(sight, reach, places):
    """Whether a scope holds of every thing, or of some, where that has not been found out yet."""
    wanted = reach.how == "every"
    for thing in range(sight.many):
        if scope_holds(sight, reach.inner, {**places, reach.letter: thing}) != wanted:
            return not wanted
    return wanted


def thing_of(sight, term, places):
    """The thing that a name or a letter stands for."""
    if term in places:
        return places[term]
    return sight.names[term]


def fact_holds(sight, form, places):
    """Whether a form without forms in it holds."""
    word = form[0]
    if word == "false":
        return False
    if word == "least":
        return count_of(sight.world, form[1]) >= count_of(sight.world, form[2])
    if word == "is":
        return thing_of(sight, form[1], places) in sight.kinds[form[2]]
    if word == "same":
        return thing_of(sight, form[1], places) == thing_of(sight, form[2], places)
    pair = (thing_of(sight, form[2], places), thing_of(sight, form[3], places))
    return pair in sight.doings[form[1]]

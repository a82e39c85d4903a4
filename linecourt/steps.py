"""The steps by which a goal is reached, written as lines."""


class Sheet:
    """Lines that are being written, and the search that tells their steps."""

    def __init__(self, search):
        self.search = search
        self.lines = []


class Spot:
    """Where on a sheet steps are put: at a level, with the lines at hand there, by the numbers of their forms."""

    def __init__(self, sheet, level, at_hand):
        self.sheet = sheet
        self.level = level
        self.at_hand = at_hand


def add_line(spot, number, reason):
    """Writes a line with the form of a number; told is the line's own number."""
    sheet = spot.sheet
    sheet.lines.append((spot.level, sheet.search.pool.forms[number], reason))
    spot.at_hand[number] = len(sheet.lines)
    return len(sheet.lines)


def known_line(spot, scene, number):
    """The line of a known form; where it isn't at hand it is written, with those that it comes from."""
    if number in spot.at_hand:
        return spot.at_hand[number]
    return add_line(spot, number, known_reason(spot, scene, number))


def known_reason(spot, scene, number):
    """The reason of a known form that isn't at hand, what it comes from being written."""
    how = scene.known[number]
    if how[0] == "at":
        return ("at", known_line(spot, scene, how[1]), how[2])
    return (how[0], *[known_line(spot, scene, source) for source in how[1:]])


def goal_line(spot, proof):
    """The line of a goal; where it isn't at hand it is written, with all that it needs."""
    if proof.goal in spot.at_hand:
        return spot.at_hand[proof.goal]
    return add_line(spot, proof.goal, goal_reason(spot, proof))


def goal_reason(spot, proof):
    """The reason of a goal, what it needs being written."""
    if proof.goal in spot.at_hand:
        return ("again", spot.at_hand[proof.goal])
    if proof.how == "known":
        if proof.goal in proof.scene.known:
            return known_reason(spot, proof.scene, proof.goal)
        return ("nothing", known_line(spot, proof.scene, spot.sheet.search.false))
    if proof.how in ("soif", "not", "forany"):
        return (proof.how, add_box(spot, proof))
    numbers = [goal_line(spot, inner) for inner in proof.inner]
    if proof.how == "such":
        return ("such", *numbers, proof.name)
    return (proof.how, *numbers)


def add_box(spot, proof):
    """Writes the box that a goal leans on, its last line the goal within; told is the number of its opener."""
    within = Spot(spot.sheet, spot.level + 1, dict(spot.at_hand))
    reason = ("supposed",) if proof.name is None else ("any", proof.name)
    opener = add_line(within, proof.scene.numbers[-1], reason)
    inner = proof.inner[0]
    add_line(within, inner.goal, goal_reason(within, inner))
    return opener

"""Names that stand nowhere yet."""

from linecourt.words import GREAT, SMALL


class Namer:
    """Tells names that are none of those taken, each once."""

    def __init__(self, taken):
        self.taken = {name: True for name in taken}
        self.tried = 0


def name_at(place):
    """The name at a place of all names, the shorter ones first: A to Z, Aa to Za, and so on."""
    told = GREAT[place % 26]
    rest = place // 26
    while rest > 0:
        told += SMALL[(rest - 1) % 26]
        rest = (rest - 1) // 26
    return told


def new_name(namer):
    """A name that stands nowhere yet."""
    while name_at(namer.tried) in namer.taken:
        namer.tried += 1
    namer.tried += 1
    return name_at(namer.tried - 1)

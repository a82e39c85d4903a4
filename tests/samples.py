"""What several tests use: things of all sorts, and forms of each word."""


class Nasty:
    """A thing that can't be compared, hashed, counted or asked for its truth."""

    def __eq__(self, other):
        raise AssertionError("compared")

    def __hash__(self):
        raise AssertionError("hashed")

    def __len__(self):
        raise AssertionError("counted")

    def __bool__(self):
        raise AssertionError("asked for its truth")


def nest(deep, thing):
    for _ in range(deep):
        thing = (thing,)
    return thing


ODD_THINGS = (
    None, True, False, 0, 1, -1, 7, 10 ** 13, b"", b"cat", b"Ann", [], ["cat"], (), ((),), ("cat",), {}, {"cat": 1},
    set(), {"cat"}, frozenset(), object(), Nasty(), (Nasty(),), (Nasty(), Nasty(), Nasty()), ("is", Nasty(), Nasty()),
    len, int, nest(20, "Ann"), nest(20, ()), ((Nasty(), Nasty()), Nasty()), (("cat", "dog"), ("cat", "dog")),
)
ODD_TEXTS = (
    "", " ", "\n", "(", ")", "+", ">=", "*", "~", "0", "12", "Ann ", " Ann", "Ann\n", "cat ", " cat", "cat\n", "x ", " x",
    "x\n", "a b", "A b", "aB", "a1", "A1", "x-", "\u00e9t\u00e9", "\u00c9mile", "Zo\u00eb", "x\u00b2", "x\u0661", "\u0441at",
)

TOM = ("is", "Tom", "cat")
SEES = ("does", "sees", "Tom", "x1")
ONE = ((("cat", 1), ("dog", 2)), 0)
OTHER = ((), 3)
FORMS = (
    TOM,
    ("is", "x", "dog"),
    ("is", "z9", "dog"),
    SEES,
    ("does", "sees", "y", "Tom"),
    ("same", "Tom", "T"),
    ("same", "u", "w0"),
    ("least", ONE, OTHER),
    ("least", ((), 0), ((), 0)),
    ("least", ((("cat", 999999999999),), 999999999999), ((("ant", 1), ("bee", 1), ("cat", 1)), 1)),
    ("false",),
    ("not", TOM),
    ("and", TOM, SEES),
    ("or", SEES, TOM),
    ("if", TOM, ("false",)),
    ("every", "x", ("is", "x", "cat")),
    ("some", "v3", ("not", ("is", "x", "cat"))),
    ("some", "x", ("every", "x", TOM)),
)


def deep_form(deep):
    """A closed form with so many forms within one another."""
    form = ("does", "sees", "x", "y")
    words = ("not", "and", "some", "or", "if", "every")
    for at in range(deep - 3):
        word = words[at % 6]
        if word == "not":
            form = ("not", form)
        elif word in ("some", "every"):
            form = (word, "z", form)
        else:
            form = (word, form, ("is", "x", "cat")) if at % 4 else (word, ("is", "y", "dog"), form)
    return ("every", "x", ("some", "y", form))


def wide_form(parts):
    """A closed form with an odd number of parts, as level as can be."""
    forms = [("is", ("Ann", "Tom")[at % 2], ("cat", "dog")[at % 3 % 2]) for at in range((parts + 1) // 2)]
    while len(forms) > 1:
        word = ("and", "or", "if")[len(forms) % 3]
        paired = [(word, one, other) for one, other in zip(forms[::2], forms[1::2])]
        forms = paired + forms[2 * len(paired):]
    return forms[0]

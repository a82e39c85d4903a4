"""Forms with numbers of their own: so very many of them are compared, and looked up, by their numbers alone."""

from linecourt.forms import SHAPES, put_for


class Pool:
    """Forms, numbered from 0 on, each once; a row is a form whose forms are told by their numbers."""

    def __init__(self):
        self.forms = []
        self.rows = []
        self.numbers = {}
        self.cases = {}


def number_of(pool, form):
    """The number of a form, which is put in where it is new."""
    row = (form[0], *[
        number_of(pool, piece) if place == "F" else piece for place, piece in zip(SHAPES[form[0]], form[1:])
    ])
    if row not in pool.numbers:
        pool.numbers[row] = len(pool.forms)
        pool.forms.append(form)
        pool.rows.append(row)
    return pool.numbers[row]


def case_number(pool, number, name):
    """The number of F with a name for x, of every x F or some x F."""
    if (number, name) not in pool.cases:
        word, x, inner = pool.forms[number]
        pool.cases[(number, name)] = number_of(pool, put_for(inner, x, name))
    return pool.cases[(number, name)]

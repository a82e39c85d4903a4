"""The court's desk: arguments come as texts, and some are kept for others to lean on."""

from linecourt.argumenttexts import read_argument, show_argument
from linecourt.court import court_word
from linecourt.errors import Twice
from linecourt.filling import written_out


class Court:
    """A court that keeps earlier arguments."""

    def __init__(self):
        self.earlier = []

    def keep(self, name, text):
        """Keeps what is written out of a text, by a name; or NoText, Twice, Lacks, TooGreat."""
        argument = read_argument(text)
        if name in self.kept():
            raise Twice(f"{name} is kept already")
        told = written_out(argument, tuple(self.earlier))[0]
        self.earlier.append((name, told))

    def word(self, text):
        """What the court says of a text; or NoText."""
        return court_word(read_argument(text), tuple(self.earlier))

    def written(self, text):
        """The text of what is written out of a text; or NoText, Lacks, TooGreat."""
        return show_argument(written_out(read_argument(text), tuple(self.earlier))[0])

    def kept(self):
        """The names of what is kept, in order."""
        return tuple([name for name, argument in self.earlier])

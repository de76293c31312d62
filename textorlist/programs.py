"""Programs: texts that say what is done with a value."""

from textorlist.errors import BadProgram, BadSpot, TooMany
from textorlist.lines import TAKER
from textorlist.reading import read_rows
from textorlist.tokens import MARKED, is_name, rows_of
from textorlist.values import is_whole_number


def text_of(rows):
    """The text of a program from the spaces and tokens of its lines."""
    return "\n".join([" " * spaces + " ".join(tokens) for spaces, tokens in rows])


def plain_places(tokens):
    """A list of the indexes in a line at which the variable of a plain spot stands."""
    if tokens[0] in ("for", "if"):
        return [at for at in range(1, len(tokens)) if tokens[at - 1] in ("in", "len") and is_name(tokens[at])]
    return [at for at in range(1, len(tokens)) if is_name(tokens[at])][-1:]


class Program:
    """A program; `lines` has its lines, `main` is the name of its last function."""

    LINES = 30
    FUNCTIONS = 4
    SPOTS = 12

    def __init__(self, text):
        if not isinstance(text, str):
            raise BadProgram(-1)
        self._rows = rows_of(text)
        reading = read_rows(self._rows)
        self._openers = {line.name: line for line in reading.lines if line.deed == "def"}
        if len(self._openers) > Program.FUNCTIONS:
            raise TooMany("functions")
        if len(reading.found) > Program.SPOTS:
            raise TooMany("spots")
        self.lines = tuple(reading.lines)
        self.main = list(self._openers)[-1]
        self._meanings = reading.meanings
        self._spots = reading.found

    def __len__(self):
        return len(self.lines)

    def __str__(self):
        return str(text_of(self._rows))

    def __eq__(self, other):
        return isinstance(other, Program) and self._rows == other._rows

    def names(self):
        """A list of the functions in the order of the text."""
        return list(self._openers)

    def takers(self):
        """A list of the takers in ascending order."""
        return sorted([name for name in self._meanings if self._meanings[name] == TAKER])

    def spots(self):
        """A list with the line and the form of each spot."""
        return list(self._spots)

    def opener_of(self, name):
        """The line that begins a function."""
        return self._openers[name]

    def is_plain_spot(self, spot):
        """Whether any value is the number of a plain spot."""
        return is_whole_number(spot) and 0 <= spot < len(self._spots) and self._spots[spot][1] == "plain"

    def place_of(self, spot):
        """The line of a plain spot, and the index of its variable there."""
        line = self._spots[spot][0]
        ahead = [at for at in range(spot) if self._spots[at] == (line, "plain")]
        return line, plain_places(self._rows[line][1])[len(ahead)]

    def marked(self, mend):
        """The program with the marks of a mend."""
        for spot, _ in mend:
            if not self.is_plain_spot(spot):
                raise BadSpot(spot)
        rows = [(spaces, list(tokens)) for spaces, tokens in self._rows]
        for spot, mark in mend:
            line, at = self.place_of(spot)
            ahead, behind = MARKED[mark]
            # One token stays one, so that the indexes of the others stay, too.
            rows[line][1][at] = ahead + rows[line][1][at] + behind
        return Program(text_of(rows))

"""Programs: texts that say what is done with a value."""

from textorlist.errors import BadProgram, BadSpot, TooMany
from textorlist.lines import FUNCTION, TAKER
from textorlist.reading import read_program
from textorlist.tokens import written
from textorlist.values import is_whole_number


def text_of(rows):
    """The text of a program from the spaces and tokens of its lines."""
    return "\n".join([" " * spaces + " ".join(tokens) for spaces, tokens in rows])


class Program:
    """A program; `lines` has its lines, `main` is the name of its last function."""

    LINES = 30
    FUNCTIONS = 4
    SPOTS = 12

    def __init__(self, text):
        if not isinstance(text, str):
            raise BadProgram(-1)
        reading = read_program(text)
        if len(reading.named(FUNCTION)) > Program.FUNCTIONS:
            raise TooMany("functions")
        if len(reading.found) > Program.SPOTS:
            raise TooMany("spots")
        self.lines = tuple(reading.lines)
        self.main = reading.named(FUNCTION)[-1]
        self._openers = {line.name: line for line in reading.lines if line.deed == "def"}
        self._takers = sorted(reading.named(TAKER))
        self._rows = reading.rows
        self._spots = reading.found
        self._text = text_of(reading.rows)

    def __len__(self):
        return len(self.lines)

    def __str__(self):
        return str(self._text)

    def __eq__(self, other):
        return isinstance(other, Program) and self._text == other._text

    def names(self):
        """A list of the functions in the order of the text."""
        return list(self._openers)

    def takers(self):
        """A list of the takers in ascending order."""
        return list(self._takers)

    def spots(self):
        """A list with the line and the form of each spot."""
        return [(line, form) for line, _, _, form in self._spots]

    def opener_of(self, name):
        """The line that begins a function."""
        return self._openers[name]

    def is_plain_spot(self, spot):
        """Whether any value is the number of a plain spot."""
        return is_whole_number(spot) and 0 <= spot < len(self._spots) and self._spots[spot][3] == "plain"

    def marked(self, mend):
        """The program with the marks of a mend."""
        for spot, _ in mend:
            if not self.is_plain_spot(spot):
                raise BadSpot(spot)
        rows = [(spaces, list(tokens)) for spaces, tokens in self._rows]
        # From the last spot to the first one, so that the places of those to come stay.
        for spot, mark in sorted(mend)[::-1]:
            line, begin, end, _ = self._spots[spot]
            tokens = rows[line][1]
            tokens[begin:end] = written(mark, tokens[begin])
        return Program(text_of(rows))

"""The errors of the package.

An error keeps copies of its fields. Its message is made only when somebody
reads it: a field may be any value, also one that is nested too deeply for
Python to show it.
"""

from textorlist.walks import copy_of


class TextorlistError(ValueError):
    """The base of all errors of this package."""


class BadValue(TextorlistError):
    """Something is no value; `place` is where it stands."""

    def __init__(self, place):
        self.place = copy_of(place)

    def __str__(self):
        return f"there is no value at the place {self.place!r}"


class NoPlace(TextorlistError):
    """Something is no place of a value, or not one that can be wrapped; `place` is what was passed."""

    def __init__(self, place):
        self.place = copy_of(place)

    def __str__(self):
        return f"the value has no such place: {self.place!r}"


class NoItems(TextorlistError):
    """Nothing was asked for items."""

    def __init__(self):
        pass

    def __str__(self):
        return "nothing has no items"


class NoEntry(TextorlistError):
    """There is no entry with an index; `at` is what was passed."""

    def __init__(self, at):
        self.at = copy_of(at)

    def __str__(self):
        return f"there is no entry at {self.at!r}"


class NotText(TextorlistError):
    """An entry is not a text; `at` is its index."""

    def __init__(self, at):
        self.at = copy_of(at)

    def __str__(self):
        return f"the entry at {self.at!r} is not a text"


class BadProgram(TextorlistError):
    """A string is no program; `line` is the line at which this shows."""

    def __init__(self, line):
        self.line = copy_of(line)

    def __str__(self):
        return f"no program goes on like this at line {self.line!r}"


class TooMany(TextorlistError):
    """There are more of something than is allowed; `what` says of what."""

    def __init__(self, what):
        self.what = copy_of(what)

    def __str__(self):
        return f"there are too many: {self.what!r}"


class NoFunction(TextorlistError):
    """A program has no function of this name; `name` is what was passed."""

    def __init__(self, name):
        self.name = copy_of(name)

    def __str__(self):
        return f"the program has no function {self.name!r}"


class Stopped(TextorlistError):
    """A run did not end of itself; `way` is how it ended, `line` is where."""

    def __init__(self, way, line):
        self.way = copy_of(way)
        self.line = copy_of(line)

    def __str__(self):
        return f"the run ended at line {self.line!r} in the way {self.way!r}"


class NoTaker(TextorlistError):
    """Nobody takes what is handed over under this name; `name` is the name."""

    def __init__(self, name):
        self.name = copy_of(name)

    def __str__(self):
        return f"there is no taker {self.name!r}"


class BadFate(TextorlistError):
    """An entry of the bad fates is none; `at` is its index."""

    def __init__(self, at):
        self.at = copy_of(at)

    def __str__(self):
        return f"there is no fate at {self.at!r}"


class BadSpot(TextorlistError):
    """A mend has a spot that is not the number of a plain one; `spot` is what was passed."""

    def __init__(self, spot):
        self.spot = copy_of(spot)

    def __str__(self):
        return f"there is no plain spot {self.spot!r}"

"""Courses: how programs are executed, line by line.

Nothing recurses here: the blocks that a run is in stand in a list, as a value
may be nested deeper than Python lets functions call each other.
"""

from textorlist.conditions import tested


def does_otherwise(ask, letters):
    """Whether a line does something else with a text of so many letters than with its list."""
    if ask == "sum":
        return True
    if ask == "tail":
        return letters > 1
    return letters != 1


def fails(ask, given):
    """Whether a line that asks for items fails with what its E gives."""
    if given.kind() == "nothing":
        return True
    if ask in ("first", "last"):
        return given.length() == 0
    if ask == "only":
        return given.length() != 1
    if ask == "sum":
        return given.kind() != "list"
    return ask == "join" and any([item.kind() != "text" for item in given.inner()])


def picked(ask, items):
    """Those of the items that a line takes."""
    if ask in ("first", "head"):
        return items[:1]
    if ask == "last":
        return items[-1:]
    if ask == "tail":
        return items[1:]
    return items


class Frame:
    """A block of a function or a loop in a run, which is in it.

    `opener` is the line that begins it, `held` the value of its variable, `rest`
    the items that are to come, the next one last, `back` the line that is next
    behind it, and `called` what the function was called with.
    """

    def __init__(self, opener, held, rest, back, called):
        self.opener = opener
        self.held = held
        self.rest = rest
        self.back = back
        self.called = called


class Course:
    """The course of a run: how it ended, what it met, handed over (taker, manner, held) and executed."""

    def __init__(self, program, key):
        self.program = program
        self.key = key
        self.at = 0
        self.frames = []
        self.way = "end"
        self.line = None
        self.befallen = []
        self.gifts = []
        self.executed = []

    def go(self, name, held):
        """Executes a function with a value."""
        opener = self.program.opener_of(name)
        self.enter(Frame(opener, held, [], opener.after, held))
        while self.frames:
            self.execute(self.program.lines[self.at])
            self.leave()

    def enter(self, frame):
        """Goes on in a block."""
        self.frames.append(frame)
        self.at = frame.opener.number + 1

    def leave(self):
        """Goes on behind the blocks that are at their ends, or in them with the next item."""
        while self.frames and self.at == self.frames[-1].opener.after:
            frame = self.frames[-1]
            if frame.rest:
                frame.held = frame.rest.pop()
                self.at = frame.opener.number + 1
            else:
                self.frames.pop()
                self.at = frame.back

    def execute(self, line):
        """Executes one line."""
        if line.deed == "else":
            # A run comes to it only from the block of its `if`.
            self.at = line.after
            return
        self.executed.append(line.number)
        if line.deed == "if":
            self.choose(line)
        elif line.deed == "refuse":
            self.stop("refuse", line)
        elif line.form is None:
            self.jump(line.deed)
        else:
            self.take(line)

    def meet(self, kind, line):
        """Keeps a fate if it is met for the first time."""
        if (kind, line.number) not in self.befallen:
            self.befallen.append((kind, line.number))

    def stop(self, way, line):
        """Ends the run at a line."""
        self.way = way
        self.line = line.number
        self.meet(way, line)
        self.frames = []

    def choose(self, line):
        """Executes an `if`."""
        answer, slips = tested(line.test, self.frames[-1].held, self.key)
        if slips:
            self.meet("slip", line)
        if answer is None:
            self.stop("fail", line)
        else:
            self.at = line.number + 1 if answer else line.otherwise

    def jump(self, deed):
        """Executes `skip`, `break` or `return`."""
        if deed == "skip":
            self.at = self.frames[-1].opener.after
            return
        frame = self.frames.pop()
        while deed == "return" and frame.opener.deed != "def":
            frame = self.frames.pop()
        self.at = frame.back

    def take(self, line):
        """Executes a line that takes something of an E or A."""
        given = self.frames[-1].held.given(line.form)
        if line.ask == "it":
            self.use(line, [given])
            return
        if given.kind() == "text" and does_otherwise(line.ask, given.length()):
            self.meet("slip", line)
        if fails(line.ask, given):
            self.stop("fail", line)
        else:
            self.use(line, picked(line.ask, given.inner()))

    def use(self, line, items):
        """Executes a line that has taken these items."""
        if line.deed == "give":
            self.hand_over(line, items)
        elif line.deed == "call":
            self.call(line, items[0])
        else:
            self.loop(line, items)

    def hand_over(self, line, items):
        """Hands items over to a taker."""
        manner = "joined" if line.ask == "join" else "whole"
        for item in items:
            self.gifts.append((line.name, manner, item))
            if item.torn:
                self.meet("letter", line)
        self.at = line.after

    def loop(self, line, items):
        """Begins a loop over items."""
        if items:
            self.enter(Frame(line, items[0], items[1:][::-1], line.after, self.frames[-1].called))
        else:
            self.at = line.after

    def call(self, line, item):
        """Calls a function with an item."""
        opener = self.program.opener_of(line.name)
        calls_itself = opener.number < line.number < opener.after
        # A function hands on to itself what it was called with, or what is in this and so is smaller,
        # unless it is the letter of a text of one letter. So equal values are known by their places.
        if calls_itself and item.stands_like(self.frames[-1].called):
            self.stop("endless", line)
        else:
            self.enter(Frame(opener, item, [], line.after, item))

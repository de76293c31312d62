"""Outcomes: what the lines and blocks of a program come to, each executed by itself with a value.

An outcome is (end, met, seen, again): how it ends; a bit for each fate that is
met; a bit for each way in which the marked place is handed over; and the bits of
those in which it is handed over more than once. So outcomes behind each other are
put together by a few operations on numbers, whatever they stand for.
"""

from textorlist.conditions import tested
from textorlist.courses import does_otherwise, picked
from textorlist.fates import FATES
from textorlist.held import Held

# With these ends the line behind is next; a loop is "broken" by its own `break`.
GOING_ON = ("on", "broken")
DONE = ("on", 0, 0, 0)

# How a block ends whose last line ended so; a line "fails" itself, and a run can "fail" within it.
LOOP_ENDS = {"broken": "on", "skip": "on", "fails": "fail"}
FUNCTION_ENDS = {"broken": "on", "return": "on", "fails": "fail"}


def fate_bit(kind, number):
    """The bit for a fate at a line."""
    return 1 << (len(FATES) * number + FATES.index(kind))


def bad_bits(bad, lines):
    """The bits of the bad fates of a program with so many lines."""
    bits = 0
    for number in range(lines):
        for kind in FATES:
            if kind in bad or (kind, number) in bad:
                bits = bits | fate_bit(kind, number)
    return bits


def behind(one, other):
    """The outcome of something that went on and of what was executed behind it."""
    return (other[0], one[1] | other[1], one[2] | other[2], one[3] | other[3] | (one[2] & other[2]))


def end_of_block(opener, end):
    """How a block ends whose last line ended so."""
    if opener.deed == "for":
        return LOOP_ENDS.get(end, end)
    return FUNCTION_ENDS.get(end, end)


def given_kids(form, node):
    """The items of what an E of a form gives, None if it gives nothing; and whether it gives a text."""
    if form == "wrap" or (form != "plain" and node.word is not None):
        return [node], False
    if form == "some" and node.kids is None:
        return [], False
    return node.kids, node.word is not None


def fails(ask, kids, of_text):
    """Whether a line that asks for items fails with these."""
    if kids is None:
        return True
    if ask in ("first", "last"):
        return not kids
    if ask == "only":
        return len(kids) != 1
    if ask == "sum":
        return of_text
    return ask == "join" and any([kid.word is None for kid in kids])


def asks_for_items(line):
    """Whether a line asks for items."""
    return line.ask is not None and line.ask != "it"


class Outcomes:
    """The outcomes of the lines and blocks of a program with the nodes of a pool.

    A block is executed by itself, or in a call of its function with the same value;
    only then is it endless at a line that calls the function with this value again.
    """

    def __init__(self, program, pool):
        self.lines = program.lines
        self.openers = {line.name: line for line in program.lines if line.deed == "def"}
        self.pool = pool
        self.blocks_known = {}
        self.lines_known = {}
        self.choices = {}

    def fate(self, kind, line):
        """The bit for a fate at a line of the program."""
        return fate_bit(kind, line.number)

    def of_function(self, name, node):
        """The outcome of a function that is called with a value."""
        return self.of_block(self.openers[name], node, True)

    def of_block(self, opener, node, called):
        """The outcome of a block with a value, in a call with it if called."""
        if called and opener.deed == "for":
            return self.gone_through(opener, node, True)
        sign = (opener.number, node.number)
        if sign not in self.blocks_known:
            self.blocks_known[sign] = self.gone_through(opener, node, called)
        return self.blocks_known[sign]

    def gone_through(self, opener, node, called):
        """The outcome of a block that is executed line by line."""
        told = DONE
        at = opener.number + 1
        while at < opener.after and told[0] in GOING_ON:
            line = self.lines[at]
            at = line.after
            if line.deed == "if":
                at, more = self.choice(line, node)
                told = behind(told, more)
            elif line.deed != "else":
                told = behind(told, self.of_line(line, node, called))
        return (end_of_block(opener, told[0]), *told[1:])

    def choice(self, line, node):
        """Where an `if` goes on, and its outcome."""
        sign = (line.number, node.look)
        if sign not in self.choices:
            self.choices[sign] = self.chosen(line, node)
        return self.choices[sign]

    def chosen(self, line, node):
        """Where an `if` goes on, and its outcome, found by its test."""
        answer, slips = tested(line.test, Held(node.worth, (), 0, False), self.pool.key)
        met = self.fate("slip", line) if slips else 0
        if answer is None:
            return line.after, ("fails", met | self.fate("fail", line), 0, 0)
        return (line.number + 1 if answer else line.otherwise), ("on", met, 0, 0)

    def of_line(self, line, node, called):
        """The outcome of a line that is no `if` and no `else`."""
        if line.form is None:
            return (line.deed, self.fate("refuse", line) if line.deed == "refuse" else 0, 0, 0)
        if line.ask == "it":
            wraps = line.form == "wrap" or (line.form == "many" and node.word is not None)
            return self.used(line, [self.pool.wrapped(node) if wraps else node], node if called else None)
        if called and (line.form == "wrap" or node.word is not None):
            return self.of_asking(line, node, node)
        sign = (line.number, node.number)
        if sign not in self.lines_known:
            self.lines_known[sign] = self.of_asking(line, node, None)
        return self.lines_known[sign]

    def of_asking(self, line, node, called):
        """The outcome of a line that asks for items, in a call with a node, or None."""
        kids, of_text = given_kids(line.form, node)
        met = self.fate("slip", line) if of_text and does_otherwise(line.ask, len(kids)) else 0
        if fails(line.ask, kids, of_text):
            return ("fails", met | self.fate("fail", line), 0, 0)
        end, more, seen, again = self.used(line, picked(line.ask, kids), called)
        return (end, met | more, seen, again)

    def used(self, line, kids, called):
        """The outcome of a line that has taken these items."""
        if line.deed == "call":
            return self.of_call(line, kids[0], called)
        told = DONE
        for kid in kids:
            if line.deed == "give":
                told = behind(told, self.of_gift(line, kid))
            else:
                told = behind(told, self.of_block(line, kid, kid == called))
            if told[0] != "on":
                return ("broken", *told[1:]) if told[0] == "break" else told
        return told

    def of_gift(self, line, kid):
        """The outcome of handing over a part."""
        if kid.wraps is None and not kid.torn:
            return DONE
        manner = "joined" if line.ask == "join" else "whole"
        seen = 0 if kid.wraps is None else self.pool.gift_bit(line.name, manner, kid.wraps)
        return ("on", self.fate("letter", line) if kid.torn else 0, seen, 0)

    def of_call(self, line, kid, called):
        """The outcome of a call."""
        opener = self.openers[line.name]
        if kid == called and opener.number < line.number < opener.after:
            return ("endless", self.fate("endless", line), 0, 0)
        return self.of_block(opener, kid, True)

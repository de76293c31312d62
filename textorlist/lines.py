"""Lines: the forms of lines that stand in programs, each read from its tokens."""

from textorlist.conditions import read_test

FUNCTION = "function"
VARIABLE = "variable"
TAKER = "taker"

OPENERS = ("def", "for", "if", "else")
ENDS = ("skip", "break", "return", "refuse")

# What a loop takes of its E, and how that is written behind the E.
LOOP_TAILS = (
    ("each", (":",)),
    ("head", ("[", ":", "1", "]", ":")),
    ("tail", ("[", "1", ":", "]", ":")),
)


class Line:
    """A line of a program.

    `deed` is the word that it begins with, or "call", or "give" if it hands over.
    `name` is the function or the taker, `variable` that of the block that it begins,
    `form` the form of its E or A, and `test` the code of its TEST.
    `ask` says what it takes: what E or A gives ("it"), or of the items of this
    "each", the "first", the "last", the "only" one, the "head" or the "tail", or each
    of them for a "sum" or a "join".
    `number` is its own number, `after` the one behind its block, and `otherwise` the
    one where a run goes on if the test does not hold.
    """

    def __init__(self, deed, name=None, variable=None, form=None, ask=None, test=None):
        self.deed = deed
        self.name = name
        self.variable = variable
        self.form = form
        self.ask = ask
        self.test = test
        self.number = None
        self.after = None
        self.otherwise = None


def means(meanings, name, meaning):
    """Whether a name, which may be None, is one that has or can have this meaning."""
    return name is not None and meanings.get(name, meaning) == meaning


def read_def(reader, meanings):
    """The line that begins a function, or None if it is wrong."""
    if not reader.takes(["def"]):
        return None
    name = reader.taken_name()
    bracket = reader.takes(["("])
    variable = reader.taken_name()
    if not bracket or not reader.takes([")", ":"]):
        return None
    if name is None or name in meanings or name == variable or not means(meanings, variable, VARIABLE):
        return None
    return Line("def", name=name, variable=variable)


def read_for(reader, meanings):
    """The line of a loop, behind its first word, or None if it is wrong."""
    variable = reader.taken_name()
    if not means(meanings, variable, VARIABLE) or not reader.takes(["in"]):
        return None
    form = reader.given()
    for ask, tail in LOOP_TAILS:
        if form is not None and reader.takes(list(tail)):
            return Line("for", variable=variable, form=form, ask=ask)
    return None


def read_if(reader):
    """The line of an `if`, behind its first word, or None if it is wrong."""
    test = read_test(reader)
    if test is None or not reader.takes([":"]):
        return None
    return Line("if", test=test)


def read_argument(reader):
    """A pair of the form of the A that comes next, None if none does, and of what it takes."""
    if reader.takes(["*"]):
        return (reader.given(), "each")
    form = reader.given()
    if reader.takes(["[", "0", "]"]):
        return (form, "first")
    if reader.takes(["[", "-", "1", "]"]):
        return (form, "last")
    return (None if form == "some" else form, "it")


def read_call(reader, name, block):
    """The line that calls a function, behind the first bracket, or None if it is wrong."""
    form, ask = read_argument(reader)
    if form is None or not reader.takes([")"]):
        return None
    if name == block.own and ask == "it":
        if form != "plain" or not block.looped:
            return None
        # The variable by which a function calls itself is no spot.
        reader.found = []
    return Line("call", name=name, form=form, ask="only" if ask == "each" else ask)


def read_gift(reader, name):
    """The line that hands over to a taker, behind the name, or None if it is wrong."""
    if reader.takes(["("]):
        form, ask = read_argument(reader)
        ended = reader.takes([")"])
    elif reader.takes([".", "join", "("]):
        form, ask = reader.given(), "join"
        ended = reader.takes([")"])
    elif reader.takes(["=", name, "+"]):
        form, ask, ended = reader.given(), "sum", True
    else:
        ended = reader.takes(["+="])
        form, ask = reader.given(), "each"
    if form is None or not ended:
        return None
    return Line("give", name=name, form=form, ask=ask)


def read_named(reader, block, meanings):
    """A line that begins with a name, or None if it is wrong."""
    name = reader.taken_name()
    if means(meanings, name, TAKER):
        return read_gift(reader, name)
    if means(meanings, name, FUNCTION) and reader.takes(["("]):
        return read_call(reader, name, block)
    return None


def read_inner(reader, block, meanings):
    """The line that comes first in the tokens and stands inside of a block; None if it is wrong there."""
    word = reader.taken_from(("if", "for", "else", *ENDS))
    if word is None:
        return read_named(reader, block, meanings)
    if word == "if":
        return read_if(reader)
    if word == "for":
        return read_for(reader, meanings)
    if word == "else":
        return Line("else") if reader.takes([":"]) else None
    if word in ("skip", "break") and not block.looped:
        return None
    return Line(word)

"""Lines: the forms of lines that stand in programs, each read from its tokens."""

from textorlist.conditions import asked_form, read_test
from textorlist.tokens import FORMS, is_name, shape_of

FUNCTION = "function"
VARIABLE = "variable"
TAKER = "taker"

OPENERS = ("def", "for", "if", "else")

# What stands behind the variable of a loop: the form of its E, and what it takes of this.
LOOPS = {
    " in V : ": ("plain", "each"),
    " in W : ": ("wrap", "each"),
    " in M : ": ("many", "each"),
    " in S : ": ("some", "each"),
    " in V [ : 1 ] : ": ("plain", "head"),
    " in W [ : 1 ] : ": ("wrap", "head"),
    " in M [ : 1 ] : ": ("many", "head"),
    " in S [ : 1 ] : ": ("some", "head"),
    " in V [ 1 : ] : ": ("plain", "tail"),
    " in W [ 1 : ] : ": ("wrap", "tail"),
    " in M [ 1 : ] : ": ("many", "tail"),
    " in S [ 1 : ] : ": ("some", "tail"),
}

# What stands behind a name in brackets: the form of its E or A, and what it takes of this.
ARGUMENTS = {
    " ( V ) ": ("plain", "it"),
    " ( W ) ": ("wrap", "it"),
    " ( M ) ": ("many", "it"),
    " ( V [ 0 ] ) ": ("plain", "first"),
    " ( W [ 0 ] ) ": ("wrap", "first"),
    " ( M [ 0 ] ) ": ("many", "first"),
    " ( S [ 0 ] ) ": ("some", "first"),
    " ( V [ - 1 ] ) ": ("plain", "last"),
    " ( W [ - 1 ] ) ": ("wrap", "last"),
    " ( M [ - 1 ] ) ": ("many", "last"),
    " ( S [ - 1 ] ) ": ("some", "last"),
    " ( * V ) ": ("plain", "only"),
    " ( * W ) ": ("wrap", "only"),
    " ( * M ) ": ("many", "only"),
    " ( * S ) ": ("some", "only"),
}

# What else can stand behind the name of a taker.
GIFTS = {
    " += V ": ("plain", "each"),
    " += W ": ("wrap", "each"),
    " += M ": ("many", "each"),
    " += S ": ("some", "each"),
    " . join ( V ) ": ("plain", "join"),
    " . join ( W ) ": ("wrap", "join"),
    " . join ( M ) ": ("many", "join"),
    " . join ( S ) ": ("some", "join"),
}


class Line:
    """A line of a program.

    `deed` is the word that it begins with, or "call", or "give" if it hands over.
    `name` is the function or the taker, `variable` that of the block that it begins,
    `form` the form of its E or A, and `test` the code of its TEST.
    `ask` says what it takes: what E or A gives ("it"), or of the items of this
    "each", the "first", the "last", the "only" one, the "head" or the "tail", or each
    of them for a "sum" or a "join".
    `number` is its own number, `after` the one behind its block, and `otherwise` the
    one where a run goes on if the test does not hold.
    """

    def __init__(self, deed, name=None, variable=None, form=None, ask=None, test=None):
        self.deed = deed
        self.name = name
        self.variable = variable
        self.form = form
        self.ask = ask
        self.test = test
        self.number = None
        self.after = None
        self.otherwise = None


def can_be(meanings, name, meaning):
    """Whether a name has this meaning, or can have it."""
    return meanings.get(name) == meaning or (name not in meanings and is_name(name))


def read_def(tokens, meanings):
    """The line that begins a function, or None if it is wrong."""
    if len(tokens) != 6 or tokens[0] != "def" or tokens[2] != "(" or tokens[4] != ")" or tokens[5] != ":":
        return None
    name, variable = tokens[1], tokens[3]
    if name in meanings or name == variable or not is_name(name) or not can_be(meanings, variable, VARIABLE):
        return None
    return Line("def", name, variable)


def read_for(tokens, block, meanings):
    """The line of a loop, or None if it is wrong."""
    told = LOOPS.get(shape_of(tokens[2:], block.variable))
    if told is None or not can_be(meanings, tokens[1], VARIABLE):
        return None
    return Line("for", None, tokens[1], told[0], told[1])


def read_if(tokens, block):
    """The line of an `if`, or None if it is wrong."""
    code = read_test(shape_of(tokens[1:], block.variable).split())
    return None if code is None else Line("if", None, None, None, None, code)


def read_call(name, shape, block):
    """The line that calls a function, or None if it is wrong."""
    told = ARGUMENTS.get(shape)
    if told is None:
        return None
    form, ask = told
    if name == block.own and ask == "it" and (form != "plain" or not block.looped):
        return None
    return Line("call", name, None, form, ask)


def read_gift(name, shape):
    """The line that hands over to a taker, or None if it is wrong."""
    told = ARGUMENTS.get(shape) or GIFTS.get(shape)
    if told is not None:
        return Line("give", name, None, told[0], "each" if told[1] == "only" else told[1])
    words = shape.split()
    if len(words) == 4 and words[:3] == ["=", name, "+"] and words[3] in FORMS:
        return Line("give", name, None, FORMS[words[3]], "sum")
    return None


def read_named(tokens, block, meanings):
    """A line that begins with a name, or None if it is wrong."""
    name = tokens[0]
    shape = shape_of(tokens[1:], block.variable)
    if meanings.get(name) == FUNCTION:
        return read_call(name, shape, block)
    return read_gift(name, shape) if can_be(meanings, name, TAKER) else None


def read_bare(tokens, block):
    """A line of one word, or `else:`; None if it is wrong."""
    word = tokens[0]
    if word == "else":
        return Line("else") if tokens == ["else", ":"] else None
    if len(tokens) > 1 or (word in ("skip", "break") and not block.looped):
        return None
    return Line(word)


def read_inner(tokens, block, meanings):
    """The line with these tokens inside of a block, or None if it is wrong there."""
    word = tokens[0]
    if word == "for":
        return read_for(tokens, block, meanings) if len(tokens) > 2 else None
    if word == "if":
        return read_if(tokens, block)
    if word in ("else", "skip", "break", "return", "refuse"):
        return read_bare(tokens, block)
    return read_named(tokens, block, meanings)


def asked_forms(line, own):
    """A list of the forms of the spots of a line in a function."""
    if line.deed == "if":
        return [asked_form(step) for step in line.test if asked_form(step) is not None]
    # The variable by which a function calls itself is no spot.
    if line.form is None or (line.name == own and line.ask == "it"):
        return []
    return [line.form]

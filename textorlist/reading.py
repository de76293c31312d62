"""Reading: from the text of a program to its lines."""

from textorlist.errors import BadProgram
from textorlist.lines import FUNCTION, OPENERS, TAKER, VARIABLE, read_def, read_inner
from textorlist.tokens import Reader, tokens_of


class Block:
    """An open block: the line that begins it, its variable, its function, and whether it is in a loop."""

    def __init__(self, line, variable, own, looped):
        self.line = line
        self.variable = variable
        self.own = own
        self.looped = looped


def block_of(line, around):
    """The block that a line begins, inside of another one."""
    if line.deed == "def":
        return Block(line, line.variable, line.name, False)
    if line.deed == "for":
        return Block(line, line.variable, around.own, True)
    return Block(line, around.variable, around.own, around.looped)


class Reading:
    """What is known of a program behind some of its lines.

    `rows` has the spaces and the tokens of each line, `meanings` the meaning of
    each name, `found` a tuple for each spot: its line, the indexes of the tokens
    where it begins and ends, and its form. The first one of the open `blocks` is
    what is outside of all functions.
    """

    def __init__(self):
        self.lines = []
        self.rows = []
        self.meanings = {}
        self.found = []
        self.blocks = [Block(None, None, None, False)]

    def is_whole(self):
        """Whether each block that has begun has a line."""
        return self.lines[-1].deed not in OPENERS

    def may_stand(self, depth):
        """Whether a line in so many blocks may come next."""
        inmost = len(self.blocks) - 1
        return depth == inmost or (depth < inmost and self.is_whole())

    def accepts(self, spaces, tokens):
        """Takes up the next line if it is right; whether it is."""
        depth = spaces // 2
        if not tokens or spaces != 2 * depth or not self.may_stand(depth):
            return False
        around = self.blocks[depth]
        reader = Reader(tokens, around.variable)
        line = read_inner(reader, around, self.meanings) if depth else read_def(reader, self.meanings)
        choice = self.ended_choice(depth)
        if line is None or not reader.ended() or (line.deed == "else" and choice is None):
            return False
        self.close(depth)
        if line.deed == "else":
            choice.otherwise = len(self.lines) + 1
        self.put(line, around, reader)
        self.rows.append((spaces, tokens))
        return True

    def ended_choice(self, depth):
        """The line of the `if` whose block a next line in so many blocks is directly behind, or None."""
        ended = self.blocks[depth + 1:]
        return ended[0].line if ended and ended[0].line.deed == "if" else None

    def close(self, depth):
        """Ends the blocks that a next line in so many blocks is outside of."""
        for line in [block.line for block in self.blocks[depth + 1:]]:
            line.after = len(self.lines)
            line.otherwise = line.after
        self.blocks = self.blocks[:depth + 1]

    def put(self, line, around, reader):
        """Puts a line behind the others, and keeps what it says of names and spots."""
        line.number = len(self.lines)
        line.after = line.number + 1
        self.lines.append(line)
        if line.variable is not None:
            self.meanings[line.variable] = VARIABLE
        if line.deed == "def":
            self.meanings[line.name] = FUNCTION
        if line.deed == "give":
            self.meanings[line.name] = TAKER
        self.found.extend([(line.number, begin, end, form) for begin, end, form in reader.found])
        if line.deed in OPENERS:
            self.blocks.append(block_of(line, around))

    def named(self, meaning):
        """A list of the names with a meaning, in the order of the text."""
        return [name for name in self.meanings if self.meanings[name] == meaning]


def read_program(text):
    """The reading of a whole program."""
    reading = Reading()
    lines = text.split("\n")
    for number, line in enumerate(lines):
        if not reading.accepts(len(line) - len(line.lstrip(" ")), tokens_of(line)):
            raise BadProgram(number)
    if not reading.is_whole():
        raise BadProgram(len(lines))
    reading.close(0)
    return reading

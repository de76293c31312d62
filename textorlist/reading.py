"""Reading: from the text of a program to its lines."""

from textorlist.errors import BadProgram
from textorlist.lines import FUNCTION, OPENERS, TAKER, VARIABLE, asked_forms, read_def, read_inner


class Block:
    """An open block: the line that begins it, its variable, its function, and whether it is in a loop."""

    def __init__(self, line, variable, own, looped):
        self.line = line
        self.variable = variable
        self.own = own
        self.looped = looped


def block_of(line, around):
    """The block that a line begins, inside of another one."""
    if line.deed == "def":
        return Block(line, line.variable, line.name, False)
    if line.deed == "for":
        return Block(line, line.variable, around.own, True)
    return Block(line, around.variable, around.own, around.looped)


class Reading:
    """What is known of a program behind some of its lines.

    `meanings` has the meaning of each name, `found` the line and the form of each
    spot. The first one of the open `blocks` is what is outside of all functions.
    """

    def __init__(self):
        self.lines = []
        self.meanings = {}
        self.found = []
        self.blocks = [Block(None, None, None, False)]

    def is_whole(self):
        """Whether each block that has begun has a line."""
        return self.lines[-1].deed not in OPENERS

    def may_stand(self, spaces):
        """Whether a line behind so many spaces may come next."""
        inmost = 2 * len(self.blocks) - 2
        return spaces == inmost or (spaces < inmost and spaces & 1 == 0 and self.is_whole())

    def accepts(self, spaces, tokens):
        """Takes up the next line if it is right; whether it is."""
        if not tokens or not self.may_stand(spaces):
            return False
        depth = spaces // 2
        around = self.blocks[depth]
        line = read_inner(tokens, around, self.meanings) if depth else read_def(tokens, self.meanings)
        if line is None or (line.deed == "else" and not self.ends_choice(depth)):
            return False
        if depth < len(self.blocks) - 1:
            self.close(depth, line.deed == "else")
        self.put(line, around)
        return True

    def ends_choice(self, depth):
        """Whether the next line, in so many blocks, is directly behind the block of an `if` in these."""
        return depth < len(self.blocks) - 1 and self.blocks[depth + 1].line.deed == "if"

    def close(self, depth, chosen):
        """Ends the blocks that a next line is outside of; chosen says that this is the `else` of the first of them."""
        behind = len(self.lines)
        for block in self.blocks[depth + 1:]:
            block.line.after = behind
            block.line.otherwise = behind
        if chosen:
            self.blocks[depth + 1].line.otherwise = behind + 1
        self.blocks = self.blocks[:depth + 1]

    def put(self, line, around):
        """Puts a line behind the others, and keeps what it says of names and spots."""
        number = len(self.lines)
        line.number = number
        line.after = number + 1
        self.lines.append(line)
        if line.deed == "give":
            self.meanings[line.name] = TAKER
        for form in asked_forms(line, around.own):
            self.found.append((number, form))
        if line.deed in OPENERS:
            self.begin(line, around)

    def begin(self, line, around):
        """Goes on in the block that a line begins."""
        if line.variable is not None:
            self.meanings[line.variable] = VARIABLE
        if line.deed == "def":
            self.meanings[line.name] = FUNCTION
        self.blocks.append(block_of(line, around))


def read_rows(rows):
    """The reading of a whole program, given by the spaces and tokens of its lines."""
    reading = Reading()
    for number, (spaces, tokens) in enumerate(rows):
        if not reading.accepts(spaces, tokens):
            raise BadProgram(number)
    if not reading.is_whole():
        raise BadProgram(len(rows))
    reading.close(0, False)
    return reading

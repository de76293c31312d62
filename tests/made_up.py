"""Programs, values and keys that are made up from numbers of a generator with a fixed seed."""

from textorlist.errors import TooMany
from textorlist.programs import Program

NAMES = ["f", "g", "both", "main"]
VARIABLES = ["v", "w", "x", "y"]
TAKERS = ["out", "log", "t"]


class Maker:
    """Makes up the lines of one program."""

    def __init__(self, rng, lines):
        self.rng = rng
        self.left = lines
        self.lines = []

    def given(self, v):
        return self.rng.choice([v, v, v, f"[{v}]", f"many({v})", f"some({v})"])

    def argument(self, v):
        e = self.given(v)
        return self.rng.choice([v, v, f"[{v}]", f"many({v})", f"{e}[0]", f"{e}[-1]", f"*{e}"])

    def atom(self, v):
        sign = self.rng.choice(["=", "!=", "<", "<=", ">", ">="])
        return self.rng.choice([
            f"text {v}", f"list {v}", f"list {v}", f"nothing {v}", v, f"key = {v}", f"key in {self.given(v)}",
            f"len {self.given(v)} {sign} {self.rng.randrange(4)}",
        ])

    def test(self, v, depth=0):
        pick = self.rng.randrange(9 if depth < 3 else 4)
        if pick < 5:
            return self.atom(v)
        if pick == 5:
            return f"not {self.test(v, depth + 1)}"
        if pick == 6:
            return f"({self.test(v, depth + 1)})"
        return self.test(v, depth + 1) + self.rng.choice([" and ", " or "]) + self.test(v, depth + 1)

    def put(self, depth, line):
        self.lines.append("  " * depth + line)
        self.left -= 1

    def call(self, v, name, own, looped):
        if name == own:
            e = self.given(v)
            return f"{name}({self.rng.choice(([v, v] if looped else []) + [f'{e}[0]', f'{e}[-1]', f'*{e}'])})"
        return f"{name}({self.argument(v)})"

    def gift(self, v):
        taker, e = self.rng.choice(TAKERS), self.given(v)
        return self.rng.choice([
            f"{taker}({self.argument(v)})", f"{taker} += {e}", f"{taker} = {taker} + {e}", f"{taker}.join({e})",
        ])

    def line(self, depth, v, known, own, looped):
        pick = self.rng.randrange(12)
        deep = depth < 5 and self.left > 1
        if pick < 3 and deep:
            inner = self.rng.choice(VARIABLES)
            self.put(depth, f"for {inner} in {self.given(v)}{self.rng.choice(['', '', '[:1]', '[1:]'])}:")
            self.block(depth + 1, inner, known, own, True)
        elif pick < 6 and deep:
            self.put(depth, f"if {self.test(v)}:")
            self.block(depth + 1, v, known, own, looped)
            if self.rng.randrange(2):
                self.put(depth, "else:")
                self.block(depth + 1, v, known, own, looped)
        elif pick < 8:
            self.put(depth, self.call(v, self.rng.choice(known), own, looped))
        elif pick == 8 and self.rng.randrange(2):
            self.put(depth, self.rng.choice(["return", "return", "refuse"] + (["skip", "break"] if looped else [])))
        else:
            self.put(depth, self.gift(v))

    def block(self, depth, v, known, own, looped):
        for _ in range(self.rng.choice([1, 1, 2, 3])):
            self.line(depth, v, known, own, looped)


def program(rng):
    """The text of a program."""
    maker = Maker(rng, rng.choice([6, 9, 12]))
    known = []
    for name in rng.sample(NAMES, rng.choice([1, 1, 2, 3])):
        known.append(name)
        v = rng.choice(VARIABLES)
        maker.put(0, f"def {name}({v}):")
        maker.block(1, v, list(known), name, False)
    return "\n".join(maker.lines)


def right_program(rng):
    """The text of a program that has not too many spots."""
    while True:
        text = program(rng)
        try:
            Program(text)
        except TooMany:
            continue
        return text


def value(rng, depth=0):
    """A small value."""
    if depth > 2 or rng.randrange(3):
        return rng.choice([None, "", "a", "a", "b", "ab", "ab", "ba", "abc", "aab", []])
    return [value(rng, depth + 1) for _ in range(rng.randrange(4))]


def key(rng):
    """A key."""
    return rng.choice(["", "a", "b", "ab", "abc", "aab"])


PIECES = [
    "def", "for", "in", "if", "else", "and", "or", "not", "text", "list", "nothing", "len", "key", "many", "some", "join",
    "skip", "break", "return", "refuse", "f", "g", "v", "w", "x", "out", "log", "(", ")", "[", "]", ":", ".", "*", "+",
    "-", "=", "<", ">", "+=", "!=", "<=", ">=", "0", "1", "2", "3", "4", "10", "!", "\t", "A", "_", " ", "  ", "abcdefghi",
    "abcdefgh", "\n", "\n  ", "\n    ",
]


def spoilt(rng, text):
    """A text with some change, which may be right all the same."""
    lines = text.split("\n")
    at = rng.randrange(len(lines))
    pick = rng.randrange(8)
    if pick == 0:
        del lines[at]
    elif pick == 1:
        lines.insert(at, lines[rng.randrange(len(lines))])
    elif pick == 2:
        lines[at] = " " * rng.randrange(4) + lines[at]
    elif pick == 3:
        lines[at] = lines[at][rng.randrange(4):]
    elif pick == 4:
        lines = lines[:at + 1]
    else:
        line = lines[at]
        begin = rng.randrange(len(line) + 1)
        lines[at] = line[:begin] + rng.choice(PIECES) + line[begin + rng.randrange(3):]
    return "\n".join(lines)

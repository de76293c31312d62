"""A second opinion on programs: whole texts are looked at with Python's patterns, not line by line."""

import ast
import re

KEPT = (
    "def for in if else and or not text list nothing len key many some join skip break return refuse"
).split()
WORD = r"[a-z]{1,8}"
LONGEST = re.compile(r"[a-z]+|[0-9]+|\+=|!=|<=|>=|[^ ]", re.DOTALL)


def is_name(word):
    return re.fullmatch(WORD, word) is not None and word not in KEPT


def row_of(line):
    """The spaces ahead of a line, and its tokens with one space between two."""
    rest = line.lstrip(" ")
    return len(line) - len(rest), " ".join(LONGEST.findall(rest))


def given(variable):
    """A pattern for an E."""
    v = re.escape(variable)
    return rf"(?:{v}|\[ {v} \]|many \( {v} \)|some \( {v} \))"


def is_test(test, variable):
    """Whether a string is a TEST: its atoms stand for A, and Python tells whether the rest is right."""
    v, e = re.escape(variable), given(variable)
    atom = rf"(?<!\S)(?:text {v}|list {v}|nothing {v}|key = {v}|key in {e}|len {e} (?:=|!=|<|<=|>|>=) [0123]|{v})(?!\S)"
    shape = re.sub(atom, "A", test)
    if not re.fullmatch(r"(?:A|and|or|not|[()])(?: (?:A|and|or|not|[()]))*", shape):
        return False
    if re.search(r"A \(|\( \)|\) \(|\) A", shape):
        return False
    try:
        ast.parse(shape, mode="eval")
    except SyntaxError:
        return False
    return True


class Whole:
    """Whether a text is a program; `ok` says it."""

    def __init__(self, text):
        self.rows = [row_of(line) for line in text.split("\n")]
        self.roles = {"function": set(), "variable": set(), "taker": set()}
        self.ok = self.functions() and self.names_are_apart()

    def names_are_apart(self):
        roles = list(self.roles.values())
        return not (roles[0] & roles[1] or roles[0] & roles[2] or roles[1] & roles[2])

    def inside(self, begin, spaces):
        """The index behind all rows that stand deeper."""
        end = begin
        while end < len(self.rows) and self.rows[end][0] > spaces:
            end += 1
        return end

    def functions(self):
        at = 0
        while at < len(self.rows):
            spaces, line = self.rows[at]
            told = re.fullmatch(rf"def ({WORD}) \( ({WORD}) \) :", line)
            if spaces or not told or not is_name(told[1]) or not is_name(told[2]) or told[1] in self.roles["function"]:
                return False
            self.roles["function"].add(told[1])
            self.roles["variable"].add(told[2])
            end = self.inside(at + 1, 0)
            if not self.block(at + 1, end, 2, told[2], told[1], False):
                return False
            at = end
        return True

    def block(self, at, end, spaces, variable, own, looped):
        if at == end:
            return False
        behind_if = False
        while at < end:
            here, line = self.rows[at]
            if here != spaces:
                return False
            inner = self.inside(at + 1, spaces)
            opened = self.opened(line, variable, own, looped, behind_if)
            if opened is None:
                if inner != at + 1 or not self.simple(line, variable, own, looped):
                    return False
            elif not opened or not self.block(at + 1, inner, spaces + 2, *opened):
                return False
            behind_if = line.startswith("if ")
            at = inner
        return True

    def opened(self, line, variable, own, looped, behind_if):
        """What is known in the block that a line begins; None if it begins none, () if it is wrong."""
        first = line.split(" ")[0]
        if first == "else":
            return (variable, own, looped) if line == "else :" and behind_if else ()
        if first == "if":
            right = line.endswith(" :") and is_test(line[3:-2], variable)
            return (variable, own, looped) if right else ()
        if first == "for":
            told = re.fullmatch(rf"for ({WORD}) in {given(variable)}(?: \[ : 1 \]| \[ 1 : \])? :", line)
            if not told or not is_name(told[1]):
                return ()
            self.roles["variable"].add(told[1])
            return (told[1], own, True)
        return None

    def simple(self, line, variable, own, looped):
        if line in ("return", "refuse"):
            return True
        if line in ("skip", "break"):
            return looped
        v, e = re.escape(variable), given(variable)
        name = line.split(" ")[0]
        if not is_name(name):
            return False
        plain = re.fullmatch(rf"{name} \( {v} \)", line)
        wrapped = re.fullmatch(rf"{name} \( (?:\[ {v} \]|many \( {v} \)) \)", line)
        items = re.fullmatch(rf"{name} \( (?:{e} \[ 0 \]|{e} \[ - 1 \]|\* {e}) \)", line)
        if name in self.roles["function"]:
            if name == own:
                return bool(items or (plain and looped))
            return bool(items or plain or wrapped)
        self.roles["taker"].add(name)
        other = re.fullmatch(rf"{name} (?:\+= {e}|= {name} \+ {e}|\. join \( {e} \))", line)
        return bool(plain or wrapped or items or other)


def is_program(text):
    return Whole(text).ok


def goes_on(lines):
    """Whether some program begins with these lines: if one does, then one with just one line more, or none."""
    spaces = row_of(lines[-1])[0]
    more = "\n" + " " * (spaces + 2) + "return"
    return is_program("\n".join(lines)) or is_program("\n".join(lines) + more)


def wrong_line(text):
    """The line of the error, or None if the text is a program."""
    if is_program(text):
        return None
    lines = text.split("\n")
    for number in range(len(lines)):
        if not goes_on(lines[:number + 1]):
            return number
    return len(lines)

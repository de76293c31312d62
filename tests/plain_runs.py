"""A second opinion on runs: the program is gone through as a tree, and values are trees with places."""

import re

from tests.plain_programs import row_of


class TooLong(Exception):
    """The run is longer than the document lets runs be."""


class Ended(Exception):
    """The run ends here."""


class Left(Exception):
    """A block is left by `skip`, `break` or `return`."""


class Tree:
    """A value with its letters or items; `inner` is what is in its wrap, if it is one."""

    def __init__(self, worth, place, torn=False, inner=None):
        self.worth = worth
        self.place = place
        self.torn = torn
        self.inner = inner
        if inner is not None:
            self.kids = [inner]
        elif isinstance(worth, str) and len(worth) == 1:
            self.kids = [self]
        elif isinstance(worth, str):
            self.kids = [Tree(letter, place + (at,), True) for at, letter in enumerate(worth)]
        else:
            self.kids = [Tree(item, place + (at,)) for at, item in enumerate(worth or [])]

    def wraps(self):
        return 0 if self.inner is None else 1 + self.inner.wraps()

    def base(self):
        return self if self.inner is None else self.inner.base()


def wrap(tree):
    return Tree([tree.worth], None, inner=tree)


def blocks(rows, begin, spaces):
    """The lines from an index on with so many spaces, each (number, line, block), and the index behind them."""
    found = []
    at = begin
    while at < len(rows) and rows[at][0] == spaces:
        inner, behind = blocks(rows, at + 1, spaces + 2)
        found.append((at, rows[at][1], inner))
        at = behind
    return found, at


class PlainRun:
    """A run of a program on a value; `fates`, `handed`, `lines`, `way` and `line` say how it went."""

    def __init__(self, text, value, key="", name=None):
        self.key = key
        self.fates, self.handed, self.lines, self.way, self.line = [], [], [], "end", None
        self.functions = {}
        for _, line, block in blocks([row_of(line) for line in text.split("\n")], 0, 0)[0]:
            _, own, _, variable, _, _ = line.split(" ")
            self.functions[own] = (variable, block)
        try:
            self.function(name or list(self.functions)[-1], Tree(value, ()))
        except Ended:
            pass

    def meet(self, kind, number):
        if (kind, number) not in self.fates:
            self.fates.append((kind, number))

    def end(self, way, number):
        self.way, self.line = way, number
        self.meet(way, number)
        raise Ended

    def function(self, name, tree):
        try:
            self.block(self.functions[name][1], tree, name, tree)
        except Left as left:
            assert left.args[0] == "return"

    def block(self, block, u, own, first):
        holds = None
        for number, line, inner in block:
            if line == "else :":
                if not holds:
                    self.block(inner, u, own, first)
                continue
            self.lines.append(number)
            if len(self.lines) > 4000:
                raise TooLong
            if line.startswith("if "):
                holds = self.test(line[3:-2], u, number)
                if holds:
                    self.block(inner, u, own, first)
            elif line.startswith("for "):
                self.loop(line, u, own, first, number, inner)
            elif line in ("skip", "break", "return"):
                raise Left(line)
            elif line == "refuse":
                self.end("refuse", number)
            else:
                self.deed(line, u, own, first, number)

    def given(self, e, u):
        if e.startswith("["):
            return wrap(u)
        if e.startswith("some") and u.worth is None:
            return Tree([], None)
        if e.startswith(("some", "many")) and isinstance(u.worth, str):
            return wrap(u)
        return u

    def items(self, tree, number, taken=slice(None)):
        """What a line that asks for items takes of them."""
        if isinstance(tree.worth, str):
            if [kid.worth for kid in tree.kids[taken]] != [tree.worth][taken]:
                self.meet("slip", number)
        if tree.worth is None:
            self.end("fail", number)
        return tree.kids[taken]

    def loop(self, line, u, own, first, number, inner):
        e, tail = re.fullmatch(r"for [a-z]+ in (.*?)( \[ : 1 \]| \[ 1 : \])? :", line).groups()
        taken = {None: slice(None), " [ : 1 ]": slice(1), " [ 1 : ]": slice(1, None)}[tail]
        for kid in self.items(self.given(e, u), number, taken):
            try:
                self.block(inner, kid, own, first)
            except Left as left:
                if left.args[0] == "break":
                    break
                if left.args[0] == "return":
                    raise

    def argument(self, a, u, number):
        """What A gives, a list of one tree, or of the items behind a star."""
        if a.startswith("*"):
            return self.items(self.given(a[2:], u), number)
        for tail, taken in ((" [ 0 ]", slice(1)), (" [ - 1 ]", slice(-1, None))):
            if a.endswith(tail):
                kids = self.items(self.given(a[:-len(tail)], u), number, taken)
                if not kids:
                    self.end("fail", number)
                return kids
        return [self.given(a, u)]

    def deed(self, line, u, own, first, number):
        name = line.split(" ")[0]
        rest = line[len(name) + 1:]
        manner = "whole"
        if rest.startswith("+= "):
            kids = self.items(self.given(rest[3:], u), number)
        elif rest.startswith("= "):
            tree = self.given(rest[len(f"= {name} + "):], u)
            if isinstance(tree.worth, str):
                self.meet("slip", number)
            if not isinstance(tree.worth, list):
                self.end("fail", number)
            kids = tree.kids
        elif rest.startswith(". join "):
            manner = "joined"
            kids = self.items(self.given(rest[len(". join ( "):-2], u), number)
            if not all(isinstance(kid.worth, str) for kid in kids):
                self.end("fail", number)
        else:
            kids = self.argument(rest[2:-2], u, number)
            if name in self.functions:
                if len(kids) != 1:
                    self.end("fail", number)
                if name == own and kids[0].worth == first.worth:
                    self.end("endless", number)
                self.function(name, kids[0])
                return
        for kid in kids:
            base = kid.base()
            self.handed.append((name, manner, base.place, kid.wraps(), kid.worth))
            if base.torn:
                self.meet("letter", number)

    def test(self, test, u, number):
        """Python itself evaluates the test, with a call for each atom."""
        v, atoms = r"[a-z]+", []
        e = rf"(?:\[ {v} \]|many \( {v} \)|some \( {v} \)|{v})"
        pattern = (
            rf"(?<!\S)(?:(?:text|list|nothing) {v}|key = {v}|key in {e}|len {e} (?:=|!=|<|<=|>|>=) [0123]"
            rf"|(?!and |or |not ){v})(?!\S)"
        )

        def put(told):
            atoms.append(told[0])
            return f"told({len(atoms) - 1})"

        shape = re.sub(pattern, put, test)
        return eval(shape, {"told": lambda at: self.atom(atoms[at], u, number)})

    def atom(self, atom, u, number):
        words = atom.split(" ")
        if len(words) == 2:
            kinds = {"text": str, "list": list, "nothing": type(None)}
            return isinstance(u.worth, kinds[words[0]])
        if len(words) == 1:
            return u.worth not in (None, "", [])
        if words[0] == "key" and words[1] == "=":
            return u.worth == self.key
        if words[0] == "key":
            tree, asked = self.given(" ".join(words[2:]), u), lambda worth: self.key in worth
        else:
            sign = {"=": "=="}.get(words[-2], words[-2])
            tree = self.given(" ".join(words[1:-2]), u)
            asked = lambda worth: eval(f"{len(worth)} {sign} {words[-1]}")
        if tree.worth is None:
            self.end("fail", number)
        if isinstance(tree.worth, str) and asked(tree.worth) != asked([tree.worth]):
            self.meet("slip", number)
        return asked(tree.worth)

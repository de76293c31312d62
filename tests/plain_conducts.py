"""A second opinion on conducts: each line and block is executed as a tree, by itself, with each value."""

from collections import Counter

from tests.plain_programs import row_of
from tests.plain_runs import Ended, Left, PlainRun, Tree, blocks
from tests.plain_shapes import holds
from tests.samples import LETTERS
from textorlist.values import places_of

# What no value is equal to: whoever is executed by itself was called with nothing of its own.
NOBODY = Tree((), None)


class Alone(PlainRun):
    """One line or block of a program that is executed by itself, and how it ended."""

    def __init__(self, text, key, own, deed):
        self.key, self.depth, self.deepest = key, 0, None
        self.fates, self.handed, self.lines, self.way, self.line = [], [], [], "on", None
        self.functions = {}
        for _, line, block in blocks([row_of(line) for line in text.split("\n")], 0, 0)[0]:
            _, name, _, variable, _, _ = line.split(" ")
            self.functions[name] = (variable, block)
        try:
            deed(self, own)
        except Ended:
            pass
        except Left as left:
            self.way = {"skip": "on"}.get(left.args[0], left.args[0])

    def function(self, name, tree):
        self.depth += 1
        super().function(name, tree)
        self.depth -= 1

    def end(self, way, number):
        self.deepest = (self.depth, number)
        super().end(way, number)


def parts(text):
    """All functions, loops and lines that ask for items, each (sort, number, line, block, own)."""
    found = []

    def go(number, line, inner, own):
        if line.startswith("for "):
            found.append(("block", number, line, inner, own))
        if line.startswith("for ") or any(sign in line for sign in ("[ 0 ]", "[ - 1 ]", "*", "+", "join")):
            if not line.startswith("if "):
                found.append(("line", number, line, inner, own))
        for row in inner:
            go(*row, own)

    for number, line, block in blocks([row_of(line) for line in text.split("\n")], 0, 0)[0]:
        own = line.split(" ")[1]
        found.append(("function", number, line, block, own))
        for row in block:
            go(*row, own)
    return found


def form_of(line):
    """The form of the E of a line that asks for items."""
    rest = line.split(" in ")[1] if line.startswith("for ") else line.split(" ", 1)[1]
    for word in ("many", "some"):
        if f"{word} (" in rest:
            return word
    starts = ("[ ", "( [ ", "( * [ ", "+= [ ", ". join ( [ ")
    return "wrap" if rest.startswith(starts) and not rest.startswith(("[ :", "[ 1")) or "+ [ " in rest else "plain"


def is_bad(fates, bad):
    return any(fate in bad or fate[0] in bad for fate in fates)


def told(text, key, part, value):
    """A part of a program, executed by itself with a value."""
    sort, number, line, inner, own = part

    def deed(run, own):
        u = Tree(value, ())
        if sort != "line":
            run.block(inner, u, own, NOBODY)
        elif line.startswith("for "):
            run.left = None
            run.loop(line, u, own, NOBODY, number, inner)
        else:
            run.deed(line, u, own, NOBODY, number)

    return Alone(text, key, own, deed)


def broke(text, key, part, value):
    """Whether a loop that went on was ended by its own `break`: it does not come to an item behind the last one."""
    sort, number, line, inner, own = part
    seen = []

    class Noting(Alone):
        def block(self, block, u, own, first):
            if block is inner and self.depth == 0:
                seen.append(u)
                try:
                    super().block(block, u, own, first)
                except Left as left:
                    if left.args[0] == "break":
                        seen.append("break")
                    raise
            else:
                super().block(block, u, own, first)

    Noting(text, key, own, lambda run, own: run.loop(line, Tree(value, ()), own, NOBODY, number, inner))
    return "break" in seen


def ended(text, key, part, value, run, two):
    """How a part ended: for one program the ends of a run within are the same."""
    sort, number, line, inner, own = part
    if sort == "line" and run.way == "fail" and run.deepest == (0, number):
        return "fail" if two else "fails itself"
    if run.way in ("fail", "refuse", "endless"):
        return run.way if two else "ended"
    if sort == "function":
        return "on"
    if sort == "line" and line.startswith("for ") and run.way == "on" and broke(text, key, part, value):
        return "break"
    return run.way


def is_asked(part, value):
    form = form_of(part[2]) if part[0] == "line" else "plain"
    return form == "plain" or (form in ("many", "some") and isinstance(value, list))


def makings(making):
    """The making of a shape and all that it is made from."""
    if making[0] == "texts":
        return [making]
    return [making] + [one for part in making[1:] for one in makings(part)]


def numbers(text):
    words = " ".join(row_of(line)[1] for line in text.split("\n")).split(" ")
    return [int(word) for word, before in zip(words[1:], words) if before in ("=", "!=", "<", "<=", ">", ">=") and word.isdigit()]


def greatest(texts, making):
    """M of the document."""
    found = [1] + [number for text in texts for number in numbers(text)]
    for one in makings(making):
        if one[0] == "texts":
            found += [number for number in one[1:] if number is not None]
    return max(found)


def traits(texts, making, key, value):
    """(a), (d) and (e) of 26."""
    most = greatest(texts, making)
    kind = type(value).__name__
    count = 0 if value is None else min(len(value), most + 1)
    of_key = None
    if any(f"key {word} " in row_of(line)[1] for text in texts for line in text.split("\n") for word in ("in", "=")):
        if isinstance(value, list):
            of_key = key in value
        if isinstance(value, str):
            ends = [key[:many] for many in range(len(key)) if value.endswith(key[:many])]
            of_key = (value == key, key.startswith(value), key in value, ends[-1] if ends else None)
    asked = [one for one in makings(making)] + [("lists", one) for one in makings(making) if one[0] == "nested"]
    return (kind, count, of_key, tuple(holds(one, value) for one in asked))


def conduct(text, making, value, bad, key):
    """What is equal for values of one conduct alone."""
    found = [traits([text], making, key, value)]
    for part in parts(text):
        if is_asked(part, value):
            run = told(text, key, part, value)
            found.append("bad" if is_bad(run.fates, bad) else ended(text, key, part, value, run, False))
    return tuple(found)


def gifts(run, place):
    """How often a place is handed over: (taker, manner, wraps, 1 or 2) each."""
    counts = Counter((name, manner, wraps) for name, manner, at, wraps, _ in run.handed if at == place)
    return sorted((*sign, min(count, 2)) for sign, count in counts.items())


def pair_conduct(one, other, making, value, place, key, excused):
    """What is equal for pairs of a value and a place that have one conduct alone."""
    found = [traits([one, other], making, key, value), "inner" if place else place]
    for first, text in ((True, one), (False, other)):
        for part in parts(text):
            if not is_asked(part, value):
                continue
            run = told(text, key, part, value)
            if first and excused and is_bad(run.fates, ("slip", "endless")):
                found.append("excused")
                continue
            end = ended(text, key, part, value, run, True)
            over = end in ("fail", "refuse", "endless") or place is None
            found.append((end, () if over else tuple(gifts(run, place))))
    return tuple(found)


def letters_for(key):
    """The letters of the key, and the first one that is not in it."""
    return sorted(set(key)) + [letter for letter in LETTERS if letter not in key][:1]


def starts(key):
    """What every table must have conducts of, whatever stands in it."""
    letters = letters_for(key)
    return [None, "", []] + letters + [one + other for one in letters for other in letters]


def pair_starts(key):
    """The same for pairs."""
    return [(value, place) for value in starts(key) for place in [None] + places_of(value)]


def grown(value, others, key):
    """What a value of a table grows to beside others, of which it is one or is not."""
    longer = [value + letter for letter in letters_for(key)] if isinstance(value, str) and len(value) > 1 else []
    lists = [value + [other] for other in others] if isinstance(value, list) else []
    return longer + lists + [other + [value] for other in others if isinstance(other, list)]


def with_item(row, item):
    """A pair of a list and one more item; none if both have places."""
    if not isinstance(row[0], list) or (row[1] is not None and item[1] is not None):
        return []
    return [(row[0] + [item[0]], row[1] if item[1] is None else (len(row[0]), *item[1]))]


def grown_pairs(pair, others, key):
    """The same for pairs."""
    value, place = pair
    found = [(value, ())]
    if isinstance(value, str) and len(value) > 1:
        found += [(value + letter, place) for letter in letters_for(key)]
        found += [(value + letter, (len(value),)) for letter in letters_for(key) if place is None]
    return found + [one for other in others for one in with_item(pair, other) + with_item(other, pair)]


def shows_all(sign, size, tuple_, begin, grow, key):
    """Whether a tuple is a table, as the document says it."""
    least = {}
    for one in tuple_:
        least[sign(one)] = min(size(one), least.get(sign(one), size(one)))
    needed = begin(key) + [more for one in tuple_ for more in grow(one, tuple_, key)]
    return all(sign(one) in least and least[sign(one)] <= size(one) for one in needed)


def least_sizes(sign, size, begin, grow, key, most):
    """A dict from each conduct to the least size of what has it; None if there are more than so many."""
    waiting = begin(key)
    found, least = [], {}
    while waiting:
        one = min(waiting, key=size)
        waiting.remove(one)
        if sign(one) not in least:
            if len(least) == most:
                return None
            least[sign(one)] = size(one)
            found.append(one)
            waiting += [more for more in grow(one, found, key) if sign(more) not in least]
    return least


def remembered(told):
    """A function that asks another one only once for each thing."""
    known = {}

    def ask(thing):
        if repr(thing) not in known:
            known[repr(thing)] = told(thing)
        return known[repr(thing)]

    return ask

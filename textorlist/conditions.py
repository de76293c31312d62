"""Conditions: how a TEST is read, and what it tells of a value.

The code of a test is a list of steps (word, more) for one answer. An atom gives
the answer; "not" turns it round; "and" and "or" go on at the step with the
number more, behind their right sides, if the answer is settled by the left one.
"""

from textorlist.tokens import NUMBERS

KINDS = ("text", "list", "nothing")
SIGNS = ("=", "!=", "<", "<=", ">", ">=")

# How tightly the operators bind; a bracket waits for its end, whatever comes.
RANKS = {"(": 0, "or": 1, "and": 2, "not": 3}


def settle(code, waiting, rank):
    """Ends the right sides of the waiting operators that bind at least so tightly."""
    while waiting and RANKS[waiting[-1][0]] >= rank:
        word, at = waiting.pop()
        if word == "not":
            code.append(("not", None))
        else:
            code[at] = (word, len(code))


def read_openers(reader, waiting):
    """Goes on to the next atom."""
    word = reader.taken_from(("not", "("))
    while word is not None:
        waiting.append((word, None))
        word = reader.taken_from(("not", "("))


def read_closers(reader, code, waiting):
    """Goes on behind the brackets that end here; whether all of them have begun."""
    while reader.takes([")"]):
        settle(code, waiting, RANKS["or"])
        if not waiting:
            return False
        waiting.pop()
    return True


def read_length(reader):
    """The rest of an atom that begins with `len`, or None if it is wrong."""
    form = reader.given()
    sign = reader.taken_from(SIGNS)
    number = reader.taken_from(NUMBERS)
    if form is None or sign is None or number is None:
        return None
    return ("len", (form, sign, int(number)))


def read_atom(reader):
    """The step for the atom that comes next, or None if none does."""
    for kind in KINDS:
        if reader.takes([kind, reader.variable]):
            return ("kind", kind)
    if reader.takes([reader.variable]):
        return ("full", None)
    if reader.takes(["key", "=", reader.variable]):
        return ("key is", None)
    if reader.takes(["key", "in"]):
        form = reader.given()
        return None if form is None else ("key in", form)
    return read_length(reader) if reader.takes(["len"]) else None


def read_operand(reader, code, waiting):
    """Goes on behind an atom, what is ahead of it and the brackets that it ends; whether that is right."""
    read_openers(reader, waiting)
    atom = read_atom(reader)
    if atom is None:
        return False
    code.append(atom)
    return read_closers(reader, code, waiting)


def read_test(reader):
    """The code of the TEST that comes next, or None if none does."""
    code = []
    waiting = []
    if not read_operand(reader, code, waiting):
        return None
    word = reader.taken_from(("and", "or"))
    while word is not None:
        settle(code, waiting, RANKS[word])
        waiting.append((word, len(code)))
        code.append(None)
        if not read_operand(reader, code, waiting):
            return None
        word = reader.taken_from(("and", "or"))
    settle(code, waiting, RANKS["or"])
    return None if waiting else code


def compares(one, sign, other):
    """Whether a comparison of two numbers holds."""
    if one == other:
        return sign in ("=", "<=", ">=")
    if one < other:
        return sign in ("!=", "<", "<=")
    return sign in ("!=", ">", ">=")


def plain_atom(word, more, held, key):
    """Whether an atom without an E holds."""
    if word == "kind":
        return held.kind() == more
    if word == "key is":
        return held.is_key(key)
    return held.is_full()


def asking_atom(word, more, given, key):
    """Whether an atom with an E holds that gives this, and not nothing."""
    if word == "key in":
        return given.has_key(key)
    _, sign, number = more
    return compares(given.length(), sign, number)


def atom_told(word, more, held, key):
    """The answer of an atom, None if it fails; and whether it slips."""
    if word not in ("key in", "len"):
        return plain_atom(word, more, held, key), False
    given = held.given(more if word == "key in" else more[0])
    if given.kind() == "nothing":
        return None, False
    answer = asking_atom(word, more, given, key)
    if given.kind() == "list":
        return answer, False
    return answer, asking_atom(word, more, given.given("wrap"), key) != answer


def tested(code, held, key):
    """The answer of a test, None if it fails; and whether one of its atoms slips."""
    at, answer, slipped = 0, False, False
    while answer is not None and at < len(code):
        word, more = code[at]
        at = at + 1
        if word == "not":
            answer = not answer
        elif word not in ("and", "or"):
            answer, slips = atom_told(word, more, held, key)
            slipped = slipped or slips
        elif answer == (word == "or"):
            at = more
    return answer, slipped

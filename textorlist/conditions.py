"""Conditions: how a TEST is read, and what it tells of a value.

The code of a test is a list of steps (word, more) for one answer. An atom gives
the answer; "not" turns it round; "and" and "or" go on at the step with the
number more, behind their right sides, if the answer is settled by the left one.
"""

from textorlist.tokens import FORMS

# The atoms in a test, by their shapes, but for those with `len`.
ATOMS = {
    "text V": ("kind", "text"),
    "list V": ("kind", "list"),
    "nothing V": ("kind", "nothing"),
    "V": ("full", None),
    "key = V": ("key is", None),
    "key in V": ("key in", "plain"),
    "key in W": ("key in", "wrap"),
    "key in M": ("key in", "many"),
    "key in S": ("key in", "some"),
}
SIGNS = ("=", "!=", "<", "<=", ">", ">=")
NUMBERS = {"0": 0, "1": 1, "2": 2, "3": 3}

# How tightly the operators bind; a bracket waits for its end, whatever comes.
RANKS = {"(": 0, "or": 1, "and": 2, "not": 3}


def atom_of(words):
    """The step for an atom, given by the words of its shape; None if there is no such atom."""
    if len(words) == 4 and words[0] == "len" and words[1] in FORMS and words[2] in SIGNS and words[3] in NUMBERS:
        return ("len", (FORMS[words[1]], words[2], NUMBERS[words[3]]))
    return ATOMS.get(" ".join(words))


def asked_form(step):
    """The form of the E of a step, None if it has none."""
    word, more = step
    if word == "key in":
        return more
    return more[0] if word == "len" else None


def settle(code, waiting, rank):
    """Ends the right sides of the waiting operators that bind at least so tightly."""
    while waiting and RANKS[waiting[-1][0]] >= rank:
        word, at = waiting.pop()
        if word == "not":
            code.append(("not", None))
        else:
            code[at] = (word, len(code))


def put_atom(code, words):
    """Puts the step for an atom behind the code; whether there is such an atom."""
    step = atom_of(words)
    if step is not None:
        code.append(step)
    return step is not None


def put_operator(code, waiting, word):
    """Takes up what comes behind an operand: `and`, `or`, the end of a bracket or of all; whether that may come."""
    settle(code, waiting, RANKS.get(word, RANKS["or"]))
    if word == ":":
        return not waiting
    if word == ")":
        if waiting:
            waiting.pop()
            return True
        return False
    waiting.append((word, len(code)))
    code.append(None)
    return True


def read_compound(words):
    """The code of a TEST of more than one atom, with the colon behind it; None if it is wrong."""
    code, waiting, atom, ended = [], [], [], False
    for word in words:
        if word in ("not", "("):
            if atom or ended:
                return None
            waiting.append((word, None))
        elif word in ("and", "or", ")", ":"):
            if not ended and not put_atom(code, atom):
                return None
            atom, ended = [], word == ")"
            if not put_operator(code, waiting, word):
                return None
        elif ended:
            return None
        else:
            atom.append(word)
    return code


def read_test(words):
    """The code of a TEST, given by the words of its shape with the colon behind it; None if it is wrong."""
    if words[-1:] != [":"] or words.count(":") > 1:
        return None
    step = atom_of(words[:-1])
    return read_compound(words) if step is None else [step]


def compares(one, sign, other):
    """Whether a comparison of two numbers holds."""
    if one == other:
        return sign in ("=", "<=", ">=")
    if one < other:
        return sign in ("!=", "<", "<=")
    return sign in ("!=", ">", ">=")


def plain_atom(word, more, held, key):
    """Whether an atom without an E holds."""
    if word == "kind":
        return held.kind() == more
    if word == "key is":
        return held.is_key(key)
    return held.is_full()


def asking_atom(word, more, given, key):
    """Whether an atom with an E holds that gives this, and not nothing."""
    if word == "key in":
        return given.has_key(key)
    _, sign, number = more
    return compares(given.length(), sign, number)


def atom_told(word, more, held, key):
    """The answer of an atom, None if it fails; and whether it slips."""
    if word not in ("key in", "len"):
        return plain_atom(word, more, held, key), False
    given = held.given(more if word == "key in" else more[0])
    if given.kind() == "nothing":
        return None, False
    answer = asking_atom(word, more, given, key)
    if given.kind() == "list":
        return answer, False
    return answer, asking_atom(word, more, given.given("wrap"), key) != answer


def tested(code, held, key):
    """The answer of a test, None if it fails; and whether one of its atoms slips."""
    at, answer, slipped = 0, False, False
    while answer is not None and at < len(code):
        word, more = code[at]
        at = at + 1
        if word == "not":
            answer = not answer
        elif word not in ("and", "or"):
            answer, slips = atom_told(word, more, held, key)
            slipped = slipped or slips
        elif answer == (word == "or"):
            at = more
    return answer, slipped

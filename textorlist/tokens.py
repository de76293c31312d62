"""Tokens: what the lines of programs consist of, and the shapes of lines.

The shape of a row of tokens is a string with a blank ahead of each token and
behind the last one, in which a letter stands for each E with the variable of the
block: V, W, M and S for `V`, `[V]`, `many(V)` and `some(V)`. No token has such
letters. So all that may stand behind a word can be looked up at once.
"""

# The characters of programs; `!` is a token only together with another sign.
KNOWN = "abcdefghijklmnopqrstuvwxyz0123456789()[]:.*+-=<>! \n"
NAME_LETTERS = 8
KEPT_WORDS = {
    "def": True, "for": True, "in": True, "if": True, "else": True, "and": True, "or": True, "not": True, "text": True,
    "list": True, "nothing": True, "len": True, "key": True, "many": True, "some": True, "join": True, "skip": True,
    "break": True, "return": True, "refuse": True,
}

# The form of the E that a letter of a shape stands for.
FORMS = {"V": "plain", "W": "wrap", "M": "many", "S": "some"}

# What the marks of a mend put ahead of a variable, and behind it.
MARKED = {"many": ("many ( ", " )"), "wrap": ("[ ", " ]")}


def cleaned(text):
    """The text without blanks other than spaces, and without letters other than a to z; `~` stands for them."""
    if text.isascii() and text.islower() and text.replace("\n", " ").isprintable():
        return text
    return "".join([letter if letter in KNOWN else "~" for letter in text])


def spread(text):
    """The text with blanks around each token that is no word.

    A digit counts as a number of its own: no line has two side by side.
    """
    text = text.replace("(", " ( ").replace(")", " ) ").replace("[", " [ ").replace("]", " ] ").replace(":", " : ")
    text = text.replace(".", " . ").replace("*", " * ").replace("+", " + ").replace("-", " - ").replace("=", " = ")
    text = text.replace("0", " 0 ").replace("1", " 1 ").replace("2", " 2 ").replace("3", " 3 ")
    text = text.replace("<", " < ").replace(">", " > ").replace("!", " ! ")
    # Two blanks stand only where nothing stood between the signs.
    return text.replace(" +  = ", " += ").replace(" !  = ", " != ").replace(" <  = ", " <= ").replace(" >  = ", " >= ")


def rows_of(text):
    """A list with the number of spaces ahead of each line, and a list of its tokens."""
    return [(len(line) - len(line.lstrip(" ")), line.split()) for line in spread(cleaned(text)).split("\n")]


def is_name(token):
    """Whether a token can be the name of a function, a variable or a taker."""
    return token.isalpha() and len(token) <= NAME_LETTERS and token not in KEPT_WORDS


def shape_of(tokens, variable):
    """The shape of a row of tokens inside of a block with a variable."""
    row = f" {' '.join(tokens)} ".replace(f" {variable} ", " V ")
    return row.replace(" [ V ] ", " W ").replace(" many ( V ) ", " M ").replace(" some ( V ) ", " S ")

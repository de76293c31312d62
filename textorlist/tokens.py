"""Tokens: what the lines of programs consist of, and a reader that goes through them."""

from textorlist.values import ALPHABET

DIGITS = "0123456789"
LONG_SIGNS = ("+=", "!=", "<=", ">=")
NUMBERS = ("0", "1", "2", "3")
WORD_LETTERS = 8
KEPT_WORDS = (
    "def", "for", "in", "if", "else", "and", "or", "not", "text", "list", "nothing", "len", "key", "many", "some",
    "join", "skip", "break", "return", "refuse",
)

# How an E is written: for each form the tokens ahead of its variable, and those behind it.
FORMS = {
    "plain": ((), ()),
    "wrap": (("[",), ("]",)),
    "many": (("many", "("), (")",)),
    "some": (("some", "("), (")",)),
}


def row_at(line, at, characters):
    """The longest row of such characters that begins at an index."""
    rest = line[at:]
    return rest[:len(rest) - len(rest.lstrip(characters))]


def token_at(line, at):
    """The token that begins at an index; also a space, which is none."""
    word = row_at(line, at, ALPHABET) or row_at(line, at, DIGITS)
    if word:
        return word
    if line[at:at + 2] in LONG_SIGNS:
        return line[at:at + 2]
    return line[at]


def tokens_of(line):
    """A list of the tokens of a line."""
    tokens = []
    at = 0
    while at < len(line):
        token = token_at(line, at)
        at = at + len(token)
        if token != " ":
            tokens.append(token)
    return tokens


def is_name(token):
    """Whether a token can be the name of a function, a variable or a taker."""
    return not token.strip(ALPHABET) and len(token) <= WORD_LETTERS and token not in KEPT_WORDS


def written(form, variable):
    """The tokens of an E."""
    ahead, behind = FORMS[form]
    return [*ahead, variable, *behind]


class Reader:
    """Goes through the tokens of a line inside of a block with a variable.

    `found` has what was read of E: where it begins, where it ends, its form.
    """

    def __init__(self, tokens, variable):
        self.tokens = tokens
        self.variable = variable
        self.at = 0
        self.found = []

    def takes(self, words):
        """Goes on behind these tokens if they come next; whether they do."""
        end = self.at + len(words)
        if self.tokens[self.at:end] != words:
            return False
        self.at = end
        return True

    def taken_from(self, words):
        """Goes on behind the next token if it is one of the words; the token, or None."""
        if self.ended() or self.tokens[self.at] not in words:
            return None
        self.at = self.at + 1
        return self.tokens[self.at - 1]

    def taken_name(self):
        """Goes on behind the next token if it is a name; the name, or None."""
        if self.ended() or not is_name(self.tokens[self.at]):
            return None
        self.at = self.at + 1
        return self.tokens[self.at - 1]

    def given(self):
        """Goes on behind an E; its form, or None if none comes next."""
        begin = self.at
        for form in FORMS:
            if self.takes(written(form, self.variable)):
                self.found.append((begin, self.at, form))
                return form
        return None

    def ended(self):
        """Whether no more tokens come."""
        return self.at == len(self.tokens)

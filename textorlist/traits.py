"""Traits: what tells values apart by themselves, ahead of what a program does with them."""

from textorlist.recipes import answers_to, asked_steps, letters_told_apart, look_of_text


def atoms_of(program):
    """A list of the atoms in the tests of a program, each (word, more)."""
    return [step for line in program.lines if line.test is not None for step in line.test]


def greatest_number(program):
    """The greatest number behind a sign in a program, 0 if there is none."""
    return max([more[2] for word, more in atoms_of(program) if word == "len"], default=0)


def asks_for_key(program):
    """Whether a program has a test for the key."""
    return any([word in ("key is", "key in") for word, _ in atoms_of(program)])


def begun(key, word):
    """The number of letters of the longest text shorter than the key with which this begins and the word ends."""
    return max([many for many in range(len(key)) if word.endswith(key[:many])], default=None)


def key_traits(key, node):
    """What a key tells of a value."""
    if node.word is None:
        return node.keyed
    return (node.word == key, key.startswith(node.word), key in node.word, begun(key, node.word))


def placed(node):
    """Which mark a value has: none, one on itself, or one in it."""
    if node.place is None:
        return "none"
    return "itself" if node.place == () else "inner"


class Traits:
    """Tells values apart for some programs, a shape and a key.

    `most` is the number up to which letters and items are counted.
    """

    def __init__(self, programs, shape, key):
        self.key = key
        self.recipe = shape.recipe
        self.limit = letters_told_apart(self.recipe)
        self.asked = asked_steps(self.recipe)
        self.nests = [number for number, step in enumerate(self.recipe) if step[0] == "nested"]
        self.most = max([1, self.limit, *[greatest_number(program) for program in programs]])
        self.keyed = any([asks_for_key(program) for program in programs])
        self.seen = {}
        self.answers = {}
        self.numbers = {}

    def look_of(self, node):
        """What the shape sees of a value whose items were looked at."""
        if node.kids is None:
            return ("nothing", 0)
        if node.word is not None:
            return look_of_text(len(node.word), self.limit)
        rows = [self.answers[self.seen[kid.number]] for kid in node.kids]
        return ("list", tuple([number for number in self.asked if all([row[number] for row in rows])]))

    def looked_at(self, node):
        """What the shape sees of a value whose items were looked at; the answers to it are kept."""
        look = self.look_of(node)
        if look not in self.answers:
            self.answers[look] = answers_to(self.recipe, look)
        self.seen[node.number] = look
        return look

    def is_in_shape(self, node):
        """Whether a value that was looked at is in the shape."""
        return self.answers[self.seen[node.number]][-1]

    def told(self, node):
        """A number that is the same for values with the same traits, whose items were looked at."""
        kind, shared = self.looked_at(node)
        count = 0 if node.kids is None else min(len(node.kids), self.most + 1)
        nests = [kind == "list" and number in shared for number in self.nests]
        of_key = key_traits(self.key, node) if self.keyed else None
        traits = (kind, count, placed(node), of_key, tuple(self.answers[(kind, shared)]), tuple(nests))
        return self.numbers.setdefault(traits, len(self.numbers))

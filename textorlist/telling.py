"""Telling conducts apart: signs that are equal for values of one conduct alone."""

from textorlist.nodes import Pool, inner_nodes
from textorlist.outcomes import Outcomes, asks_for_items
from textorlist.traits import Traits

# The ends of a run that has ended within a line or a block. For one program they are all the same,
# but for a line that fails itself; for two programs this is the same as a run that fails within.
OVER = ("fail", "refuse", "endless")
ENDS_OF_ONE = {"fail": "over", "refuse": "over", "endless": "over"}
ENDS_OF_TWO = {"fails": "fail"}


def is_asked(line, node):
    """Whether a line is one that asks for items, and is executed by itself with a value."""
    return asks_for_items(line) and (line.form == "plain" or (line.form != "wrap" and node.is_row()))


def outcomes_with(outcomes, node):
    """A list of the outcomes of the lines and blocks of a program, each by itself with a value."""
    told = [outcomes.of_line(line, node, False) for line in outcomes.lines if is_asked(line, node)]
    blocks = [line for line in outcomes.lines if line.deed in ("def", "for")]
    return told + [outcomes.of_block(line, node, line.deed == "def") for line in blocks]


def hands_over_alike(one, other):
    """Whether the outcomes of two functions are runs that are alike at the marked place."""
    return one[0] == other[0] and (one[0] in OVER or one[2:] == other[2:])


class Teller:
    """Tells the conducts of values apart for a program, or of pairs for two, with a shape and a key."""

    def __init__(self, programs, shape, key):
        self.pool = Pool(key)
        self.outcomes = [Outcomes(program, self.pool) for program in programs]
        self.ends = dict(ENDS_OF_ONE) if len(programs) == 1 else dict(ENDS_OF_TWO)
        self.traits = Traits(programs, shape, key)
        self.known = {}

    def sign(self, node, bits):
        """What is equal for nodes of one conduct alone; bits are those of the bad fates of the first program."""
        traits, ends, fates, gifts, met = self.told(node)
        if not met & bits:
            return (traits, ends, gifts)
        left = tuple([None if more & bits else end for end, more in zip(ends, fates)])
        return (traits, left, tuple([gift for gift in gifts if left[gift[0]] is not None]))

    def told(self, node):
        """What was found when a node was looked at."""
        if node.number not in self.known:
            for part in self.unknown_parts(node):
                self.known[part.number] = self.looked_at(part)
        return self.known[node.number]

    def unknown_parts(self, node):
        """A list of the nodes in a node that were not looked at, items ahead of the lists that they are in."""
        found = {node.number: node}
        waiting = [node]
        while waiting:
            part = waiting.pop()
            for kid in inner_nodes(part):
                if kid.number not in self.known and kid.number not in found:
                    found[kid.number] = kid
                    waiting.append(kid)
        # A list has a greater number than its items, as these were made first.
        return [found[number] for number in sorted(list(found))]

    def looked_at(self, node):
        """What a node is told by, if its items were looked at.

        These are a number for its traits; how each line and block ends; the fates of
        those of the first program; (index, seen, again) for what they hand over of the
        marked place; and all the fates together.
        """
        rows = [outcomes_with(outcomes, node) for outcomes in self.outcomes]
        fates = [row[1] for row in rows[0]]
        told = [row for more in rows for row in more]
        ends = tuple([self.ends.get(row[0], row[0]) for row in told])
        gifts = tuple([(at, row[2], row[3]) for at, row in enumerate(told) if row[2] and row[0] not in OVER])
        met = 0
        for more in fates:
            met = met | more
        return (self.traits.told(node), ends, tuple([*fates, *[0] * (len(told) - len(fates))]), gifts, met)

    def is_in_shape(self, node):
        """Whether a value that was told is in the shape."""
        return self.traits.is_in_shape(node)

    def outcome(self, number, name, node):
        """The outcome of a function of one of the programs with a value."""
        return self.outcomes[number].of_function(name, node)

"""Comparing: whether two programs hand over the same for all values of a shape."""

from textorlist.conducts import excused_bits, pair_nodes
from textorlist.telling import Teller, hands_over_alike
from textorlist.walks import copy_of


def first_apart(teller, mains, nodes, bits):
    """The first of the nodes in the shape at whose place the two programs are not alike, or None."""
    for node in nodes:
        if node.place is not None and teller.is_in_shape(node):
            told = teller.outcome(0, mains[0], node)
            # The bits are those of the fates with which a run of the first program is excused.
            if not told[1] & bits and not hands_over_alike(told, teller.outcome(1, mains[1], node)):
                return node
    return None


def compare(one, other, shape, *, key="", excused=False):
    """The comparison of two programs; slips of the first one are excused if excused is True."""
    bits = excused_bits(one, excused)
    teller = Teller([one, other], shape, key)
    nodes = pair_nodes(teller, bits)
    return Comparison(nodes, first_apart(teller, (one.main, other.main), nodes, bits))


class Comparison:
    """What was found of two programs: a table of pairs, and a least value for which they are apart."""

    def __init__(self, nodes, parted):
        self._shown = tuple([(node.worth, node.place) for node in nodes])
        self._parted = parted

    @property
    def table(self):
        """A tuple with a pair of a least value and a place for each conduct, in ascending order of size."""
        return copy_of(self._shown)

    @property
    def apart(self):
        """A pair of a least value for which they are apart and a place where they are not alike, or None."""
        return None if self._parted is None else (copy_of(self._parted.worth), self._parted.place)

    def __bool__(self):
        return self._parted is None

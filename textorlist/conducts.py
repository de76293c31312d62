"""Conducts: which values programs treat alike, and tables with a least value for each conduct."""

from textorlist.closing import Growth, least_nodes
from textorlist.fates import check_bad
from textorlist.outcomes import bad_bits
from textorlist.telling import Teller
from textorlist.walks import copy_of

MOST = 40
MOST_OF_PAIRS = 70


def excused_bits(one, excused):
    """The bits of the fates of the first of two programs that are all one outcome."""
    return bad_bits(("slip", "endless") if excused else (), len(one))


def table_nodes(teller, bits):
    """A list of least nodes, one for each conduct, in ascending order of size; bits are those of the bad fates."""
    return least_nodes(Growth(teller.pool, False), lambda node: teller.sign(node, bits), MOST)


def pair_nodes(teller, bits):
    """A list of least nodes with marks, one for each conduct of pairs, in ascending order of size."""
    return least_nodes(Growth(teller.pool, True), lambda node: teller.sign(node, bits), MOST_OF_PAIRS)


def table(program, shape, *, bad=("slip", "endless"), key=""):
    """A tuple with a least value for each conduct, in ascending order of size."""
    check_bad(bad)
    nodes = table_nodes(Teller([program], shape, key), bad_bits(bad, len(program)))
    return tuple([copy_of(node.worth) for node in nodes])


def table_of_pairs(one, other, shape, *, key="", excused=False):
    """A tuple with a pair of a least value and a place for each conduct of pairs, in ascending order of size."""
    nodes = pair_nodes(Teller([one, other], shape, key), excused_bits(one, excused))
    return tuple([(copy_of(node.worth), node.place) for node in nodes])


def same_conduct(program, shape, one, other, *, bad=("slip", "endless"), key=""):
    """Whether two values have the same conduct."""
    check_bad(bad)
    bits = bad_bits(bad, len(program))
    teller = Teller([program], shape, key)
    return teller.sign(teller.pool.node_of(one), bits) == teller.sign(teller.pool.node_of(other), bits)


def same_pair_conduct(one, other, shape, pair, beside, *, key="", excused=False):
    """Whether two pairs of a value and one of its places or None have the same conduct for two programs."""
    bits = excused_bits(one, excused)
    teller = Teller([one, other], shape, key)
    nodes = [teller.pool.marked(teller.pool.node_of(value), place) for value, place in (pair, beside)]
    return teller.sign(nodes[0], bits) == teller.sign(nodes[1], bits)

"""Looking at tables: whether a thing shows all conducts, whoever made it."""

from textorlist.closing import Growth, is_closed
from textorlist.conducts import excused_bits, pair_nodes, table_nodes
from textorlist.errors import NoPlace
from textorlist.fates import check_bad
from textorlist.outcomes import bad_bits
from textorlist.telling import Teller
from textorlist.values import found_at, is_value


def is_place(value, place):
    """Whether any value is a place of a value."""
    try:
        found_at(value, place)
    except NoPlace:
        return False
    return True


def is_marked_value(thing):
    """Whether any value is a pair of a value and one of its places, or None."""
    if not isinstance(thing, tuple) or len(thing) != 2 or not is_value(thing[0]):
        return False
    return thing[1] is None or is_place(thing[0], thing[1])


def distinct(nodes):
    """A list of the nodes, each once."""
    return list({node.number: node for node in nodes}.values())


def is_table(thing, program, shape, *, bad=("slip", "endless"), key=""):
    """Whether any value is a table."""
    check_bad(bad)
    bits = bad_bits(bad, len(program))
    teller = Teller([program], shape, key)
    # A table of this program may be asked for only where there are not too many conducts.
    table_nodes(teller, bits)
    if not isinstance(thing, tuple) or not all([is_value(value) for value in thing]):
        return False
    nodes = distinct([teller.pool.node_of(value) for value in thing])
    return is_closed(Growth(teller.pool, False), lambda node: teller.sign(node, bits), nodes)


def is_table_of_pairs(thing, one, other, shape, *, key="", excused=False):
    """Whether any value is a table of pairs."""
    bits = excused_bits(one, excused)
    teller = Teller([one, other], shape, key)
    pair_nodes(teller, bits)
    if not isinstance(thing, tuple) or not all([is_marked_value(pair) for pair in thing]):
        return False
    nodes = distinct([teller.pool.marked(teller.pool.node_of(value), place) for value, place in thing])
    return is_closed(Growth(teller.pool, True), lambda node: teller.sign(node, bits), nodes)

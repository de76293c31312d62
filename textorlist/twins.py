"""Twins: whether a function treats a text and the list of this text alone alike."""

from textorlist.conducts import pair_nodes
from textorlist.runs import check_function, course_of
from textorlist.shapes import Shape
from textorlist.telling import Teller, hands_over_alike


def place_in_text(place, wraps):
    """The place in a text, and the number of wraps, for what stands in the list of this text alone."""
    return ((), wraps + 1) if place == () else (place[1:], wraps)


def counts_of(signs):
    """A dict from each sign to 1 if it comes once, 2 if it comes more than once."""
    counts = {}
    for sign in signs:
        counts[sign] = min(2, counts.get(sign, 0) + 1)
    return counts


def least_parting(teller, name, nodes):
    """A tuple with the first text among the nodes whose twins are not treated alike, or ()."""
    for node in nodes:
        # A wrap around a text is its other twin: what the list hands over of itself, and of
        # its item, counts for the text there, as it is to count here.
        if node.word is not None and node.place is not None:
            wrap = teller.pool.wrapped(node)
            if not hands_over_alike(teller.outcome(0, name, node), teller.outcome(0, name, wrap)):
                return (node.word,)
    return ()


class Twins:
    """How a function treats texts and their lists; `parting` has a least text that parts them, if there is one."""

    def __init__(self, program, *, key="", name=None):
        check_function(program, name)
        teller = Teller([program, program], Shape.texts(), key)
        nodes = pair_nodes(teller, 0)
        self.parting = least_parting(teller, program.main if name is None else name, nodes)
        self._program = program
        self._key = key
        self._name = name

    def __bool__(self):
        return bool(self.parting == ())

    def counted(self, text):
        """A pair of dicts that say for a text and its list how often parts of the text are handed over."""
        gifts = course_of(self._program, text, self._key, self._name).gifts
        beside = course_of(self._program, [text], self._key, self._name).gifts
        signs = [(taker, manner, held.place, held.wraps) for taker, manner, held in gifts]
        moved = [(taker, manner, *place_in_text(held.place, held.wraps)) for taker, manner, held in beside]
        return (counts_of(signs), counts_of(moved))

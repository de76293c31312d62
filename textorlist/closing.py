"""Closing: from the smallest values on, one letter and one item at a time, to all conducts."""

from heapq import heappop, heappush

from textorlist.errors import TooMany
from textorlist.values import ALPHABET


def letters_for(key):
    """A list of the letters of a key, and the first one that is not in it."""
    others = [letter for letter in ALPHABET if letter not in key]
    return [letter for letter in ALPHABET if letter in key] + others[:1]


class Growth:
    """How values become larger: the nodes of a pool, with marks if marks is True."""

    def __init__(self, pool, marks):
        self.pool = pool
        self.marks = marks
        self.letters = letters_for(pool.key)

    def with_marks(self, node, places):
        """A list of the node, and with each of these places marked if there are marks."""
        return [node] + ([self.pool.marked(node, place) for place in places] if self.marks else [])

    def starts(self):
        """A list of the nodes for nothing, the texts of at most two test letters and the empty list."""
        pool = self.pool
        found = []
        for node in [pool.void(False), pool.text("", None, False), pool.empty(False)]:
            found.extend(self.with_marks(node, [()]))
        for letter in self.letters:
            found.extend(self.with_marks(pool.text(letter, None, False), [()]))
            for other in self.letters:
                found.extend(self.with_marks(pool.text(letter + other, None, False), [(), (0,), (1,)]))
        return found

    def lengthened(self, node):
        """A list of the nodes for a text of two or more letters with one more."""
        found = []
        for letter in self.letters:
            word = node.word + letter
            found.append(self.pool.text(word, node.place, False))
            if self.marks and node.place is None:
                found.append(self.pool.text(word, (len(node.word),), False))
        return found

    def joined(self, row, item):
        """A list of the node for a list with one more item; none if both have marks."""
        if row.place is not None and item.place is not None:
            return []
        return [self.pool.appended(row, item)]

    def grown(self, node, others):
        """A list of the nodes that a node grows to, alone and beside the others, of which it is the last one."""
        found = [self.pool.itself_marked(node)] if self.marks else []
        if node.word is not None and len(node.word) > 1:
            found.extend(self.lengthened(node))
        for other in others:
            if node.is_row():
                found.extend(self.joined(node, other))
            if other.is_row() and other != node:
                found.extend(self.joined(other, node))
        return found


def least_nodes(growth, sign, most):
    """A list of least nodes, one for each conduct, in ascending order of size; sign tells conducts apart."""
    queue = []
    for node in growth.starts():
        heappush(queue, (node.size, node.number))
    found = []
    signs = {}
    while queue:
        node = growth.pool.nodes[heappop(queue)[1]]
        told = sign(node)
        if told not in signs:
            if len(found) == most:
                raise TooMany("conducts")
            signs[told] = node
            found.append(node)
            for more in growth.grown(node, found):
                heappush(queue, (more.size, more.number))
    return found


def least_sizes(sign, nodes):
    """A dict from each sign of the nodes to the least size of a node with it."""
    least = {}
    for node in nodes:
        told = sign(node)
        least[told] = min(node.size, least.get(told, node.size))
    return least


def is_closed(growth, sign, nodes):
    """Whether the starts, and what the nodes grow to, have conducts of nodes that are not greater."""
    least = least_sizes(sign, nodes)
    needed = growth.starts()
    for at in range(len(nodes)):
        needed.extend(growth.grown(nodes[at], nodes[:at + 1]))
    for node in needed:
        told = sign(node)
        if told not in least or least[told] > node.size:
            return False
    return True

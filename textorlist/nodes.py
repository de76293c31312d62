"""Nodes: values that are looked at, each perhaps with one place that is marked.

Equal values with equal marks are one node, so what was found of a value once
holds wherever it stands, and looking at it does not go into its items again.
"""

from textorlist.walks import all_parts

# No test has a number above 3, so all that is longer looks the same to tests.
LONG = 4


class Node:
    """A value with a marked place, or with none.

    `number` is its own, `worth` the value, `word` the text if it is one, and `kids` has its letters or
    items. `look` is the number of what tests see of it, `keyed` whether the key is a
    piece or an item of it. `torn` says whether it is a torn part, `wraps` in how many
    wraps the mark is on the value itself, None if it is not. `place` is the marked
    place, and `bare` the same value without a mark.
    """

    def __init__(self, number, worth, size):
        self.number = number
        self.worth = worth
        self.size = size
        self.word = worth if isinstance(worth, str) else None
        self.kids = None
        self.look = None
        self.keyed = False
        self.torn = False
        self.wraps = None
        self.place = None
        self.bare = self

    def is_row(self):
        """Whether it is a list."""
        return self.kids is not None and self.word is None


def inner_nodes(node):
    """A list of the letters or items of a node, none for nothing."""
    return [] if node.kids is None else node.kids


class Pool:
    """The nodes that are looked at together, and numbers for what they are asked for.

    `gifts` has a bit for each taker, manner and number of wraps.
    """

    def __init__(self, key):
        self.key = key
        self.nodes = []
        self.known = {}
        self.looks = {}
        self.gifts = {}

    def new_node(self, worth, size):
        """One more node."""
        node = Node(len(self.nodes), worth, size)
        self.nodes.append(node)
        return node

    def look_number(self, look):
        """The number of what tests see of a value."""
        return self.looks.setdefault(look, len(self.looks))

    def gift_bit(self, taker, manner, wraps):
        """The bit for what is handed over so."""
        return self.gifts.setdefault((taker, manner, wraps), 1 << len(self.gifts))

    def void(self, marked):
        """Nothing, with a mark or without."""
        if ("nothing", marked) not in self.known:
            node = self.new_node(None, 1)
            node.look = self.look_number(("nothing", 0, False, False))
            self.known[("nothing", marked)] = node
            if marked:
                self.mark(node, self.void(False))
        return self.known[("nothing", marked)]

    def mark(self, node, bare):
        """Puts the mark on a new node itself, which is bare without it."""
        node.wraps = 0
        node.place = ()
        node.bare = bare

    def text(self, word, place, torn):
        """A text with a marked place, or with None."""
        sign = (word, place, torn)
        if sign not in self.known:
            self.known[sign] = self.new_text(word, place, torn)
        return self.known[sign]

    def new_text(self, word, place, torn):
        """A node for a text that has none."""
        node = self.new_node(word, 1 + len(word))
        node.torn = torn
        node.keyed = self.key in word
        node.look = self.look_number(("text", min(len(word), LONG), word == self.key, node.keyed))
        if len(word) == 1:
            node.kids = [node]
        else:
            node.kids = [self.text(word[at], () if place == (at,) else None, True) for at in range(len(word))]
        if place == ():
            self.mark(node, self.text(word, None, torn))
        elif place is not None:
            node.place = place
            node.bare = self.text(word, None, torn)
        return node

    def empty(self, marked):
        """The empty list, with a mark or without."""
        if ("list", marked) not in self.known:
            node = self.new_node([], 1)
            node.kids = []
            node.look = self.look_number(("list", 0, False, False))
            self.known[("list", marked)] = node
            if marked:
                self.mark(node, self.empty(False))
        return self.known[("list", marked)]

    def appended(self, row, item):
        """A list with one more item; at most one of both has a mark."""
        sign = (row.number, item.number)
        if sign not in self.known:
            self.known[sign] = self.new_row(row, item)
        return self.known[sign]

    def new_row(self, row, item):
        """A node for a list with one more item that has none."""
        node = self.new_node([*row.worth, item.worth], row.size + item.size)
        node.kids = [*row.kids, item]
        node.keyed = row.keyed or item.word == self.key
        node.look = self.look_number(("list", min(len(node.kids), LONG), False, node.keyed))
        node.wraps = row.wraps
        node.place = row.place if item.place is None else (len(row.kids), *item.place)
        if node.place is not None:
            node.bare = self.appended(row.bare, item.bare)
        return node

    def row_of(self, start, kids):
        """A list with these items behind those of another one."""
        row = start
        for kid in kids:
            row = self.appended(row, kid)
        return row

    def wrapped(self, node):
        """The list with a node alone; a wrap around a torn part is torn, and the mark has one wrap more."""
        if node.wraps is None and not node.torn:
            return self.appended(self.empty(False), node)
        if ("wrap", node.number) not in self.known:
            wrap = self.new_node([node.worth], 1 + node.size)
            wrap.kids = [node]
            wrap.keyed = node.word == self.key
            wrap.look = self.look_number(("list", 1, False, wrap.keyed))
            wrap.torn = node.torn
            wrap.wraps = None if node.wraps is None else node.wraps + 1
            self.known[("wrap", node.number)] = wrap
        return self.known[("wrap", node.number)]

    def node_of(self, value):
        """The node of a value, without a mark."""
        done = []
        for part in all_parts(value)[::-1]:
            if isinstance(part, list):
                # Going backwards, the items were made last of all, and the first one at the very end.
                done.append(self.row_of(self.empty(False), [done.pop() for _ in part]))
            elif part is None:
                done.append(self.void(False))
            else:
                done.append(self.text(part, None, False))
        return done[0]

    def itself_marked(self, node):
        """The same value with the mark on it itself."""
        if node.kids is None:
            return self.void(True)
        if node.word is not None:
            return self.text(node.word, (), node.torn)
        return self.row_of(self.empty(True), node.bare.kids)

    def marked(self, node, place):
        """A value that has no mark, with a mark at a place; with none if this is None."""
        if place is None:
            return node
        path = [node]
        for at in place:
            path.append(path[-1].kids[at])
        inner = self.itself_marked(path[-1])
        for around, at in list(zip(path, place))[::-1]:
            if around.word is not None:
                inner = self.text(around.word, (at,), around.torn)
            else:
                inner = self.row_of(self.empty(False), [*around.kids[:at], inner, *around.kids[at + 1:]])
        return inner

"""Baskets: what a run hands over is taken by functions of the caller, or collected."""

from textorlist.entries import Entries
from textorlist.errors import NoTaker, Stopped
from textorlist.runs import course_of
from textorlist.walks import copy_of


def gifts_of(program, value, key, names):
    """A list of what a run hands over, (taker, manner, held), to takers with these names alone."""
    course = course_of(program, value, key, None)
    if course.way != "end":
        raise Stopped(course.way, course.line)
    for taker, _, _ in course.gifts:
        if taker not in names:
            raise NoTaker(taker)
    return course.gifts


def perform(program, value, *, key="", **uses):
    """Calls the functions of the caller with what a run hands over to them; how many calls there were."""
    gifts = gifts_of(program, value, key, list(uses))
    for taker, _, held in gifts:
        use = uses[taker]
        use(copy_of(held.value()))
    return len(gifts)


def filled(basket, step):
    """What a function of the caller returns for a basket, which is as before if it raises an error."""
    with Trial(basket) as held:
        return step(held)


class Basket:
    """Collects what runs hand over: a row of entries for each of its names."""

    def __init__(self, *names):
        self._rows = {name: [] for name in names}

    def fill(self, program, value, *, key=""):
        """Puts what a run hands over behind the entries of the takers."""
        gifts = gifts_of(program, value, key, self.names())
        rows = {name: list(self._rows[name]) for name in self._rows}
        for taker, _, held in gifts:
            rows[taker].append(held.value())
        # The rows are never changed, only exchanged: a trial keeps those that it began with.
        self._rows = rows

    def entries(self, name):
        """The entries of a name."""
        if name not in self.names():
            raise NoTaker(name)
        return Entries(self._rows[name])

    def names(self):
        """A list of the names in the order in which they were passed."""
        return list(self._rows)

    def __len__(self):
        return len([entry for name in self._rows for entry in self._rows[name]])


class Trial:
    """A trial of a basket: an error that leaves its `with` block gives the basket its entries back."""

    def __init__(self, basket):
        self._basket = basket
        self._before = None

    def __enter__(self):
        self._before = self._basket._rows
        return self._basket

    def __exit__(self, kind, value, trace):
        if kind is not None:
            self._basket._rows = self._before

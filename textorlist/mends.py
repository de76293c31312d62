"""Mends: the fewest wraps with which a program takes texts for the lists that are meant."""

from textorlist.comparing import compare
from textorlist.errors import TooMany
from textorlist.judging import judge
from textorlist.walks import copy_of

MARKS = ("many", "wrap")
MOST_PLAIN = 3


def plain_spots(program):
    """A list of the numbers of the plain spots."""
    return [spot for spot, (_, form) in enumerate(program.spots()) if form == "plain"]


def mends_for(spots):
    """A list of all mends for some spots, those with fewer pairs first, those of one number ascending."""
    mends = [()]
    for spot in spots:
        mends = [*mends, *[(*mend, (spot, mark)) for mend in mends for mark in MARKS]]
    return sorted(mends, key=lambda mend: (len(mend), mend))


def fault_of(program, mend, shape, key):
    """A pair of a value and a place, or None, that show why a mend is not good; None if it is."""
    mended = program.marked(mend)
    verdict = judge(mended, shape, key=key)
    if not verdict:
        return (verdict.met[0], None)
    return compare(program, mended, shape, key=key, excused=True).apart


def least_mends(program, shape, *, key=""):
    """The good mends with the fewest pairs, and why those with fewer are not good."""
    spots = plain_spots(program)
    if len(spots) > MOST_PLAIN:
        raise TooMany("plain")
    good = []
    faults = {}
    for mend in mends_for(spots):
        if good and len(mend) > len(good[0]):
            break
        fault = fault_of(program, mend, shape, key)
        if fault is None:
            good.append(mend)
        else:
            faults[mend] = fault
    return Mends(good, {mend: faults[mend] for mend in faults if not good or len(mend) < len(good[0])})


class Mends:
    """The good mends with the fewest pairs, and what shows that others are not good."""

    def __init__(self, good, faults):
        self._good = good
        self._faults = faults

    @property
    def sets(self):
        """A list of all good mends with the fewest pairs, ascending."""
        return list(self._good)

    @property
    def bad(self):
        """A dict from each mend with fewer pairs to a pair of a value and a place, or None."""
        return {mend: copy_of(self._faults[mend]) for mend in self._faults}

    def __bool__(self):
        return bool(self._good)

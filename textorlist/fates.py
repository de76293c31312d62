"""Fates: what can befall a run at a line, and which of it is bad."""

from textorlist.errors import BadFate
from textorlist.values import is_whole_number

FATES = ("slip", "letter", "fail", "refuse", "endless")


def is_fate_or_kind(thing):
    """Whether any value is a kind of fates, or a pair of such a kind and an integer."""
    if isinstance(thing, tuple) and len(thing) == 2:
        return thing[0] in FATES and is_whole_number(thing[1])
    return thing in FATES


def check_bad(bad):
    """Raises BadFate for the first of some values that says nothing of fates."""
    for at, thing in enumerate(bad):
        if not is_fate_or_kind(thing):
            raise BadFate(at)


def has_bad(fates, bad):
    """Whether one of the fates, or its kind, is among the bad ones."""
    return any([fate in bad or fate[0] in bad for fate in fates])

"""All small values, some large ones, and what runs on them say: a second opinion on what is decided for all values."""

import itertools
from collections import Counter

from tests.plain_conducts import letters_for
from textorlist.runs import run


def values_up_to(letters, most):
    """All values with a size of at most so much, in ascending order of size."""
    sizes = [[]]

    def rows(left):
        if not left:
            yield []
        for size in range(1, left + 1):
            for item in sizes[size]:
                for row in rows(left - size):
                    yield [item] + row

    for size in range(1, most + 1):
        found = [None, "", []] if size == 1 else ["".join(word) for word in itertools.product(letters, repeat=size - 1)]
        sizes.append(found + (list(rows(size - 1)) if size > 1 else []))
    return [value for values in sizes for value in values]


def small_values(key, most=4):
    return values_up_to(letters_for(key), most)


def deep_value(rng, depth=0):
    """A value that is nested up to four deep and may be large."""
    if depth > 3 or rng.randrange(5) < 2:
        return rng.choice([None, "", "a", "b", "ab", "ba", "abc", "aab", "aabz", "bbbbb", []])
    return [deep_value(rng, depth + 1) for _ in range(rng.randrange(5))]


def handed_counts(given):
    """How often each (taker, manner, place, wraps) is handed over in a run: 1 for once, 2 for more."""
    return {sign: min(2, count) for sign, count in Counter(given.handed).items()}


def alike_at(one, other, place):
    """Whether two runs on one value are alike at a place."""
    if one.way != other.way or one.way != "end":
        return one.way == other.way
    counts = [{sign: many for sign, many in handed_counts(given).items() if sign[2] == place} for given in (one, other)]
    return counts[0] == counts[1]


def are_apart(one, other):
    """Whether two runs on one value are not alike at some place."""
    return one.way != other.way or (one.way == "end" and handed_counts(one) != handed_counts(other))


def is_excused(given):
    return any(kind in ("slip", "endless") for kind, _ in given.fates)


def runs_on(program, values, key, name=None):
    return [run(program, value, key=key, name=name) for value in values]

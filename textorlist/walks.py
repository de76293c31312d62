"""Walks through nested lists and tuples.

None of them recurses: a value that was returned may be nested deeper than
Python lets functions call each other. Only lists that stand in the function
itself are changed, so that operators may use these functions, too.
"""


def all_parts(thing):
    """The thing and all that stands in it: a list ahead of its items, these from first to last."""
    waiting = [thing]
    parts = []
    while waiting:
        part = waiting.pop()
        parts.append(part)
        if isinstance(part, (list, tuple)):
            waiting.extend(part[::-1])
    return parts


def copy_of(thing):
    """The same with new lists and tuples; a list that stands at two places becomes two lists."""
    if not isinstance(thing, (list, tuple)):
        return thing
    done = []
    for part in all_parts(thing)[::-1]:
        made = part
        if isinstance(part, (list, tuple)):
            # Going backwards, the items were made last of all, and the first one at the very end.
            made = [done.pop() for _ in part]
        if isinstance(part, tuple):
            made = tuple(made)
        done.append(made)
    return done[0]


def outline_of(value):
    """A flat list that is the same for equal values alone: each list as the number of its items."""
    return [len(part) if isinstance(part, list) else part for part in all_parts(value)]


def shown(value):
    """What `repr` gives for the value."""
    done = []
    for part in all_parts(value)[::-1]:
        if isinstance(part, list):
            inner = ", ".join([done.pop() for _ in part])
            done.append(f"[{inner}]")
        else:
            done.append(repr(part))
    return done[0]

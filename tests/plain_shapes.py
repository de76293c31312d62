"""A second opinion on shapes: how a shape is made is a tree, and what is in it is asked of each value."""

from textorlist.shapes import Shape

TEXT_BOUNDS = [(least, most) for least in range(4) for most in (None, 0, 1, 2, 3)]


def built(making):
    """The shape that is made so: (name, parts or bounds ..)."""
    name, *rest = making
    if name == "texts":
        return Shape.texts(*rest)
    parts = [built(part) for part in rest]
    if name in ("every", "never", "nothing", "lists", "nested"):
        return getattr(Shape, name)(*parts)
    if name == "~":
        return ~parts[0]
    return {"|": parts[0].__or__, "&": parts[0].__and__, "-": parts[0].__sub__}[name](parts[1])


def holds(making, value):
    """Whether a value is in the shape that is made so."""
    name, *rest = making
    if name == "every":
        return True
    if name == "never":
        return False
    if name == "nothing":
        return value is None
    if name == "texts":
        return isinstance(value, str) and rest[0] <= len(value) and (rest[1] is None or len(value) <= rest[1])
    if name == "lists":
        return isinstance(value, list) and all(holds(rest[0], item) for item in value)
    if name == "nested":
        return holds(rest[0], value) or (isinstance(value, list) and all(holds(making, item) for item in value))
    if name == "~":
        return not holds(rest[0], value)
    if name == "|":
        return holds(rest[0], value) or holds(rest[1], value)
    return holds(rest[0], value) and holds(rest[1], value) == (name == "&")


def calls(making, names=None):
    """How many calls and operators there are, or of them those with some names."""
    parts = [] if making[0] == "texts" else making[1:]
    return (names is None or making[0] in names) + sum(calls(part, names) for part in parts)


def made_up(rng, left, lists):
    """A making of at most so many calls and operators, at most so many of them `lists` and `nested`."""
    if left < 2 or rng.randrange(8) == 0:
        leaf = rng.choice(["every", "never", "nothing", "nothing", "texts", "texts", "texts", "texts"])
        return (leaf, *rng.choice(TEXT_BOUNDS)) if leaf == "texts" else (leaf,)
    above_two = ["|", "|", "&", "-", "-"] if left > 2 else []
    name = rng.choice(["~"] + above_two + (["lists", "lists", "nested", "nested"] if lists else []))
    if name in ("lists", "nested"):
        return (name, made_up(rng, left - 1, lists - 1))
    if name == "~":
        return (name, made_up(rng, left - 1, lists))
    one = made_up(rng, (left - 1) // 2, lists)
    return (name, one, made_up(rng, left - 1 - calls(one), lists - calls(one, ("lists", "nested"))))


def values_of_size(most):
    """A list of lists: for each size up to most the values of this size, with one letter, and lists in one order only."""
    sizes = [[]]
    for size in range(1, most + 1):
        found = [None, "", []] if size == 1 else ["a" * (size - 1)]
        numbered = [(at, value) for at, values in enumerate(sizes) for value in values]

        def rows(left, first):
            if not left:
                yield []
            for at in range(first, len(numbered)):
                if numbered[at][0] > left:
                    break
                for row in rows(left - numbered[at][0], at):
                    yield [numbered[at][1]] + row

        if size > 1:
            found += list(rows(size - 1, 0))
        sizes.append(found)
    return sizes

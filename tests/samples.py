"""Values, things that are no values, and plain second opinions that the tests share."""

LETTERS = "abcdefghijklmnopqrstuvwxyz"


def nested(thing, times):
    """The thing inside so many lists."""
    for _ in range(times):
        thing = [thing]
    return thing


def small_values():
    """All values of at most two levels over a few leaves, and some deeper ones."""
    leaves = [None, "", "a", "ab", "zzz"]
    flat_lists = [[]] + [[one] for one in leaves] + [[one, two] for one in leaves for two in leaves]
    deeper = [[one, two] for one in flat_lists[:9] for two in ("ab", [], ["a", None])]
    return leaves + flat_lists + deeper + [[[["ab"]], "cd", [None, ["x", ["yz"]]]]]


LARGE_VALUES = [
    "a" * 399,
    (LETTERS * 16)[:399],
    [None] * 399,
    ["ab", "", None, []] * 40,
    [["ab"] for _ in range(90)],
    nested("ab", 12),
    nested(None, 12),
    nested([], 11),
    nested(["ab", None, []], 11),
]

# Pairs of a thing that is no value, and the first place at which this shows.
NO_VALUES = [
    ((), ()),
    (("a",), ()),
    ((None,), ()),
    (0, ()),
    (1, ()),
    (-1, ()),
    (10 ** 29, ()),
    (True, ()),
    (False, ()),
    ("A", ()),
    ("aB", ()),
    ("Ba", ()),
    ("aBa", ()),
    (" ", ()),
    ("a b", ()),
    ("ab ", ()),
    (" ab", ()),
    ("a\n", ()),
    ("\tab", ()),
    ("a1", ()),
    ("0", ()),
    ("a-b", ()),
    ("`", ()),
    ("{", ()),
    ("a" * 250 + "~" + "a" * 249, ()),
    ({}, ()),
    ({"a": "b"}, ()),
    (b"ab", ()),
    ([()], (0,)),
    ([("a", "b")], (0,)),
    ([[], ()], (1,)),
    ([True], (0,)),
    ([False, None], (0,)),
    ([None, 0], (1,)),
    (["a", "B"], (1,)),
    (["a", ["B"]], (1, 0)),
    ([["B"], "B"], (0, 0)),
    (["a", [[], ["x", {}]], 5], (1, 1, 1)),
    ([[["a", "b"], ["c", ["d", "e", 3]]], True], (0, 1, 1, 2)),
    ([None, "", [], ["ok", "no!"], "No"], (3, 1)),
    ([(1, 2), ["B"]], (0,)),
    (["a"] * 300 + ["A"], (300,)),
    (nested({}, 13), (0,) * 13),
    (nested("A", 13), (0,) * 13),
    (nested(("a",), 12), (0,) * 12),
    (nested(["a", 1], 11), (0,) * 11 + (1,)),
]


def all_lists(thing):
    """Every list in a thing, the thing itself too, as often as it stands there."""
    if isinstance(thing, (list, tuple)):
        found = [one for item in thing for one in all_lists(item)]
        return found + [thing] if isinstance(thing, list) else found
    return []


def shares_list(one, other):
    """Whether some list stands in both of two things."""
    marks = {id(row) for row in all_lists(one)}
    return any(id(row) in marks for row in all_lists(other))


def has_twice(thing):
    """Whether some list stands at two places of a thing."""
    rows = all_lists(thing)
    return len({id(row) for row in rows}) < len(rows)


def spoil(thing):
    """Changes every list in a thing."""
    for row in all_lists(thing):
        row.append("spoilt")
        row.insert(0, ["spoilt"])

"""Values: nothing, texts, and lists of values; their items, places and parts."""

from textorlist.errors import BadValue, NoItems, NoPlace
from textorlist.walks import all_parts, copy_of

ALPHABET = "abcdefghijklmnopqrstuvwxyz"


def is_whole_number(thing):
    """Whether any value is an integer; True and False are none."""
    return isinstance(thing, int) and not isinstance(thing, bool)


def is_text(thing):
    """Whether any value is a text."""
    # `strip` stops at the first character that is no letter, so it leaves nothing of texts alone.
    return isinstance(thing, str) and not thing.strip(ALPHABET)


def place_of_last(steps):
    """The place of the last step; a step is the number of the step of its list, and its index there."""
    place = []
    number = len(steps) - 1
    while number > 0:
        number, at = steps[number]
        place.append(at)
    return tuple(place[::-1])


def first_fault(thing):
    """The first place at which something stands that is no value, or None if there is none."""
    waiting = [(thing, 0, 0)]
    steps = []
    while waiting:
        part, above, at = waiting.pop()
        number = len(steps)
        steps.append((above, at))
        if isinstance(part, list):
            waiting.extend([(part[k], number, k) for k in range(len(part) - 1, -1, -1)])
        elif part is not None and not is_text(part):
            return place_of_last(steps)
    return None


def check_value(thing):
    """Raises BadValue if any value is no value."""
    place = first_fault(thing)
    if place is not None:
        raise BadValue(place)


def is_value(thing):
    """Whether any value is a value."""
    return first_fault(thing) is None


def kind_of(value):
    """The kind of a value: "nothing", "text" or "list"."""
    if value is None:
        return "nothing"
    if isinstance(value, str):
        return "text"
    return "list"


def size_of(value):
    """The size of a value: 1 for each nothing, text, list and letter in it."""
    return sum([1 + len(part) if isinstance(part, str) else 1 for part in all_parts(value)])


def lists_among(values):
    """Those of the values that are lists."""
    return [value for value in values if isinstance(value, list)]


def depth_of(value):
    """The depth of a value: how many lists are inside one another in it."""
    depth = 0
    layer = lists_among([value])
    while layer:
        depth = depth + 1
        layer = lists_among([item for row in layer for item in row])
    return depth


def items_of(value):
    """A list of the items of a list, or of the letters of a text."""
    if value is None:
        raise NoItems()
    return copy_of(list(value))


def inner_of(part):
    """What stands at the places one step inside of a part."""
    if isinstance(part, list):
        return part
    # The letter of a text of one letter is this text itself and has no place of its own.
    if isinstance(part, str) and len(part) > 1:
        return list(part)
    return []


def places_of(value):
    """A list of all places of a value, ascending."""
    waiting = [((), value)]
    places = []
    while waiting:
        place, part = waiting.pop()
        places.append(place)
        inner = inner_of(part)
        waiting.extend([((*place, at), inner[at]) for at in range(len(inner) - 1, -1, -1)])
    return places


def found_at(value, place):
    """What stands at a place, not copied; raises NoPlace if it is none."""
    if not isinstance(place, tuple):
        raise NoPlace(place)
    part = value
    for at in place:
        inner = inner_of(part)
        if not is_whole_number(at) or not 0 <= at < len(inner):
            raise NoPlace(place)
        part = inner[at]
    return part


def part_of(value, place):
    """The part of a value at a place."""
    return copy_of(found_at(value, place))


def is_torn(value, place):
    """Whether the part at a place is a letter of a text of two or more letters."""
    found_at(value, place)
    return place != () and isinstance(found_at(value, place[:-1]), str)


def wrapped(value, place):
    """The value with the list of the part alone in the place of the part."""
    if is_torn(value, place):
        raise NoPlace(place)
    # In a row of its own the value has an index, as parts in it have.
    row = [copy_of(value)]
    holder, at = row, 0
    for step in place:
        holder, at = holder[at], step
    holder[at] = [holder[at]]
    return row[0]

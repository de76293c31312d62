"""Members: which values are in a shape, where this is asked many times.

A row is a number that says of a step of a recipe which looks are in it, one bit
for each. The first bits are those of lists: a list is known by a number with a
bit for each step that all its items are in, among the at most eight steps that
items are asked for. Behind these are nothing, the texts of no to three letters,
and all longer texts.
"""

from textorlist.values import ALPHABET
from textorlist.walks import all_parts

MOST_ASKED = 8
EVERY_STEP = 255
NOTHING = 256
TEXTS = 257
LONG = 4
LEAVES = (256, 257, 258, 259, 260, 261)
EVERY_LOOK = 0x3fffffffffffffffffffffffffffffffffffffffffffffffffffffffffffffffff

# The plan of no steps.
NO_PLAN = ((), (), (), (0, 0, 0, 0, 0, 0))

# For each of the steps that items are asked for, the lists whose items all are in it.
ALL_IN = (
    0xaaaaaaaaaaaaaaaaaaaaaaaaaaaaaaaaaaaaaaaaaaaaaaaaaaaaaaaaaaaaaaaa,
    0xcccccccccccccccccccccccccccccccccccccccccccccccccccccccccccccccc,
    0xf0f0f0f0f0f0f0f0f0f0f0f0f0f0f0f0f0f0f0f0f0f0f0f0f0f0f0f0f0f0f0f0,
    0xff00ff00ff00ff00ff00ff00ff00ff00ff00ff00ff00ff00ff00ff00ff00ff00,
    0xffff0000ffff0000ffff0000ffff0000ffff0000ffff0000ffff0000ffff0000,
    0xffffffff00000000ffffffff00000000ffffffff00000000ffffffff00000000,
    0xffffffffffffffff0000000000000000ffffffffffffffff0000000000000000,
    0xffffffffffffffffffffffffffffffff00000000000000000000000000000000,
)


def row_of_texts(numbers):
    """The row for texts with so many letters."""
    least, most = numbers
    row = 0
    for many in range(least, LONG + 1 if most is None else most + 1):
        row = row | 1 << (TEXTS + many)
    return row


def row_of_step(step, rows, lists):
    """The row for a step; lists has the bits of the lists whose items all are in the step that it asks for."""
    sign, parts, numbers = step
    if sign == "texts":
        return row_of_texts(numbers)
    if sign == "either":
        return rows[parts[0]] | rows[parts[1]]
    if sign == "both":
        return rows[parts[0]] & rows[parts[1]]
    if sign == "minus":
        return rows[parts[0]] & ~rows[parts[1]]
    if sign == "outside":
        return EVERY_LOOK ^ rows[parts[0]]
    if sign == "nested":
        return rows[parts[0]] | lists
    if sign == "nothing":
        return 1 << NOTHING
    return EVERY_LOOK if sign == "every" else lists


def step_asked(number, step):
    """The step that items are asked for by a step with this number, None if they are not."""
    sign, parts, _ = step
    if sign == "lists":
        return parts[0]
    return number if sign == "nested" else None


def has_row(step):
    """Whether the numbers of a step, if it has some, are so small that rows tell them apart."""
    return step[0] != "texts" or max([many for many in step[2] if many is not None]) < LONG


def told_by(rows, look):
    """A number with a bit for each of the rows that has a look."""
    told = 0
    for row in rows[::-1]:
        told = told + told + (row >> look & 1)
    return told


def longer_plan(plan, recipe):
    """The plan of a recipe whose first steps are those of another plan; None if it goes beyond rows.

    A plan has the rows of all steps, the steps that items are asked for, their rows,
    and what these say of each look that no list has.
    """
    if plan is None:
        return None
    rows = list(plan[0])
    asked = list(plan[1])
    for step in recipe[len(rows):]:
        inner = step_asked(len(rows), step)
        if inner is not None and inner not in asked:
            asked.append(inner)
        if len(asked) > MOST_ASKED or not has_row(step):
            return None
        rows.append(row_of_step(step, rows, 0 if inner is None else ALL_IN[asked.index(inner)]))
    if len(asked) == len(plan[1]):
        return rows, asked, plan[2], plan[3]
    asked_rows = [rows[number] for number in asked]
    return rows, asked, asked_rows, [told_by(asked_rows, look) for look in LEAVES]


def leaf_number(thing):
    """The number of the look of a thing that is no list among the looks that no list has; None if it is no value."""
    if thing is None:
        return 0
    if isinstance(thing, str) and not thing.strip(ALPHABET):
        return len(thing) + 1 if len(thing) < LONG else LONG + 1
    return None


def list_look(asked_rows, leaves, value):
    """The look of a list, or None if it is no value."""
    done = []
    shared = EVERY_STEP
    for part in all_parts(value)[::-1]:
        if isinstance(part, list):
            shared = EVERY_STEP
            # Going backwards, what is told of the items was put down last.
            for _ in part:
                shared = shared & done.pop()
            done.append(told_by(asked_rows, shared))
        else:
            number = leaf_number(part)
            if number is None:
                return None
            done.append(leaves[number])
    return shared


def is_member(plan, thing):
    """Whether any value is a value and a member of the last step, by a plan that is not None."""
    rows, _, asked_rows, leaves = plan
    if isinstance(thing, list):
        look = list_look(asked_rows, leaves, thing)
        return look is not None and rows[-1] >> look & 1 == 1
    number = leaf_number(thing)
    return number is not None and rows[-1] >> LEAVES[number] & 1 == 1

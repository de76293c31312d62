"""Recipes: the steps by which a shape is made, and what they say of values.

A recipe is a tuple of steps. A step is (sign, parts, numbers): the indexes of
the earlier steps that it is made from, and numbers of letters. So each step is
a shape of its own, and the last one is the shape that the recipe is for.

Steps see the look of a value only: ("nothing", 0); ("text", letters), where all
numbers above those in the recipe count as one; or ("list", shared) with those
steps that all items are in, among the steps that items are asked for. So there
are finitely many looks, whatever values there are.
"""

from textorlist.walks import all_parts


def first_step(sign, numbers):
    """A recipe of one step, made from no other."""
    return ((sign, (), numbers),)


def step_above(sign, recipe):
    """The recipe with one more step, made from its last one."""
    return (*recipe, (sign, (len(recipe) - 1,), ()))


def step_over_both(sign, one, other):
    """The steps of two recipes, equal ones once, and one more step, made from the last ones of both."""
    steps = list(one)
    known = {}
    for number, step in enumerate(one):
        known[step] = number
    moved = []
    for name, parts, numbers in other:
        step = (name, tuple([moved[part] for part in parts]), numbers)
        if step not in known:
            known[step] = len(steps)
            steps.append(step)
        moved.append(known[step])
    return (*steps, (sign, (len(one) - 1, moved[-1]), ()))


def combined(sign, told):
    """Whether values are in a step that asks for nothing but the steps it is made from."""
    if sign == "either":
        return told[0] or told[1]
    if sign == "both":
        return told[0] and told[1]
    if sign == "minus":
        return told[0] and not told[1]
    if sign == "differ":
        return told[0] != told[1]
    if sign == "outside":
        return not told[0]
    return sign == "every"


def is_in_step(step, number, told, look):
    """Whether values with a look are in a step; told says it of those that the step is made from."""
    sign, parts, numbers = step
    kind, seen = look
    if sign == "texts":
        least, most = numbers
        return kind == "text" and least <= seen and (most is None or seen <= most)
    if sign == "lists":
        return kind == "list" and parts[0] in seen
    if sign == "nested":
        return told[0] or (kind == "list" and number in seen)
    if sign == "nothing":
        return kind == "nothing"
    return combined(sign, told)


def answers_to(recipe, look):
    """A list that says of each step whether values with a look are in it."""
    answers = []
    for number, step in enumerate(recipe):
        answers.append(is_in_step(step, number, [answers[part] for part in step[1]], look))
    return answers


def asked_steps(recipe):
    """A tuple of the steps that the items of lists are asked for, ascending."""
    lists = [parts[0] for sign, parts, _ in recipe if sign == "lists"]
    nests = [number for number, step in enumerate(recipe) if step[0] == "nested"]
    return tuple(sorted(set(lists + nests)))


def letters_told_apart(recipe):
    """The greatest number of letters that is told from those above it."""
    return max([number for step in recipe for number in step[2] if number is not None], default=0)


def look_of_text(letters, limit):
    """The look of a text with so many letters, where numbers up to the limit are told apart."""
    return ("text", min(letters, limit + 1))


def answers_for(recipe, value):
    """A list that says of each step whether a value is in it."""
    asked = asked_steps(recipe)
    limit = letters_told_apart(recipe)
    known = {}
    done = []
    for part in all_parts(value)[::-1]:
        look = ("nothing", 0)
        if isinstance(part, str):
            look = look_of_text(len(part), limit)
        if isinstance(part, list):
            # Going backwards, the answers for the items were put down last.
            inner = [done.pop() for _ in part]
            look = ("list", tuple([number for number in asked if all([answers[number] for answers in inner])]))
        if look not in known:
            known[look] = answers_to(recipe, look)
        done.append(known[look])
    return done[0]


def least_leaves(recipe):
    """Triples of a look, its least size and a value of this size: nothing, texts, and the empty list."""
    limit = letters_told_apart(recipe)
    texts = [(look_of_text(many, limit), 1 + many, "a" * many) for many in range(limit + 2)]
    return [(("nothing", 0), 1, None), *texts, (("list", asked_steps(recipe)), 1, [])]


def list_rows(rows):
    """The rows of lists, each as the steps that all items are in, the size and the value."""
    return [(look[1], row[0], row[1]) for look, row in rows.items() if look[0] == "list"]


def least_rows(recipe):
    """For each look that some value has: the least size, a value of this size, the answers to the look."""
    rows = {}
    for look, size, value in least_leaves(recipe):
        rows[look] = (size, value, answers_to(recipe, look))
    growing = True
    while growing:
        growing = False
        for shared, size, value in list_rows(rows):
            for more, item, answers in list(rows.values()):
                look = ("list", tuple([number for number in shared if answers[number]]))
                # An item adds its size to that of its list, so a size falls only finitely often.
                if look not in rows or size + more < rows[look][0]:
                    rows[look] = (size + more, [*value, item], answers_to(recipe, look))
                    growing = True
    return list(rows.values())


def least_value(recipe):
    """A tuple with a least value of the last step, () if it has none; lists may stand at two places of it."""
    found = [(size, value) for size, value, answers in least_rows(recipe) if answers[-1]]
    if not found:
        return ()
    return (min(found, key=lambda row: row[0])[1],)

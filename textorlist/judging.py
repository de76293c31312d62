"""Judging: on which values of a shape a program meets a bad fate, decided for all values."""

from textorlist.conducts import table_nodes
from textorlist.fates import FATES, check_bad
from textorlist.outcomes import asks_for_items, bad_bits, fate_bit
from textorlist.runs import check_function
from textorlist.telling import Teller
from textorlist.walks import copy_of, shown


def first_met(teller, name, nodes, bits):
    """The first of the nodes in the shape with which a function meets a bad fate, or None."""
    for node in nodes:
        if teller.is_in_shape(node) and teller.outcome(0, name, node)[1] & bits:
            return node
    return None


def may_befall(kind, line):
    """Whether a fate of a kind can be met at a line at all."""
    if kind == "letter":
        return line.deed == "give"
    if kind == "refuse":
        return line.deed == "refuse"
    if kind == "endless":
        return line.deed == "call"
    return line.deed == "if" or asks_for_items(line)


def judge(program, shape, *, bad=("slip", "endless"), key=""):
    """The verdict on a program: whether it meets no bad fate on the values of a shape."""
    check_bad(bad)
    bits = bad_bits(bad, len(program))
    teller = Teller([program], shape, key)
    nodes = table_nodes(teller, bits)
    return Verdict(nodes, first_met(teller, program.main, nodes, bits))


def survey(program, shape, *, key=""):
    """A dict from each fate that is met on a value of a shape to a least such value."""
    teller = Teller([program], shape, key)
    # Where a fate cannot be met, its table is that for no bad fates.
    table_nodes(teller, 0)
    found = {}
    for kind in sorted(FATES):
        for line in [line for line in program.lines if may_befall(kind, line)]:
            bits = fate_bit(kind, line.number)
            node = first_met(teller, program.main, table_nodes(teller, bits), bits)
            if node is not None:
                found[(kind, line.number)] = copy_of(node.worth)
    return found


def survey_page(found):
    """A string with a line for each fate of a survey."""
    return "\n".join([f"{line:>3} {kind:<8} {shown(found[(kind, line)])}" for kind, line in sorted(list(found))])


def bears(program, shape, *, bad=("slip", "endless"), key="", name=None):
    """Whether a function meets no bad fate on the values of a shape."""
    check_function(program, name)
    check_bad(bad)
    bits = bad_bits(bad, len(program))
    teller = Teller([program], shape, key)
    nodes = table_nodes(teller, bits)
    return first_met(teller, program.main if name is None else name, nodes, bits) is None


def lies_in_another(shapes, at, others):
    """Whether a shape lies within one of the others; of equal ones the first is not counted so."""
    for other in others:
        if other != at and shapes[at].within(shapes[other]) and (other < at or not shapes[other].within(shapes[at])):
            return True
    return False


def greatest(program, shapes, *, bad=("slip", "endless"), key="", name=None):
    """The indexes of the shapes that a function bears and that lie within no other one that it bears."""
    check_function(program, name)
    check_bad(bad)
    borne = [at for at, shape in enumerate(shapes) if bears(program, shape, bad=bad, key=key, name=name)]
    return [at for at in borne if not lies_in_another(shapes, at, borne)]


class Verdict:
    """What was found of a program: a table, and a least value of the shape that meets a bad fate."""

    def __init__(self, nodes, worst):
        self._shown = tuple([node.worth for node in nodes])
        self._worst = worst

    @property
    def table(self):
        """A tuple with a least value for each conduct, in ascending order of size."""
        return copy_of(self._shown)

    @property
    def met(self):
        """A tuple with a least value that meets a bad fate, or None."""
        return None if self._worst is None else (copy_of(self._worst.worth),)

    def __bool__(self):
        return self._worst is None

    def __len__(self):
        if self._worst is None:
            return 0
        return len(range(self._worst.size))

"""Shapes: sets of values of any depth and size."""

from textorlist.members import NO_PLAN, is_member, longer_plan
from textorlist.recipes import answers_for, first_step, least_value, step_above, step_over_both
from textorlist.values import is_value
from textorlist.walks import copy_of


class Shape:
    """A set of values, made by the class methods and by operators."""

    LETTERS = 3

    def __init__(self, recipe, before):
        self.recipe = recipe
        # `before` is the plan of the steps ahead of those that are new.
        self._plan = longer_plan(before, recipe)

    @classmethod
    def every(cls):
        """All values."""
        return cls(first_step("every", ()), NO_PLAN)

    @classmethod
    def never(cls):
        """No values."""
        return cls(first_step("never", ()), NO_PLAN)

    @classmethod
    def nothing(cls):
        """Nothing alone."""
        return cls(first_step("nothing", ()), NO_PLAN)

    @classmethod
    def texts(cls, least=0, most=None):
        """All texts of at least so many letters and, unless most is None, at most so many."""
        return cls(first_step("texts", (least, most)), NO_PLAN)

    @classmethod
    def lists(cls, shape):
        """All lists whose items all are in a shape."""
        return cls(step_above("lists", shape.recipe), shape._plan)

    @classmethod
    def nested(cls, shape):
        """The values of a shape, and all lists of such values, at any depth."""
        return cls(step_above("nested", shape.recipe), shape._plan)

    def __or__(self, other):
        return Shape(step_over_both("either", self.recipe, other.recipe), self._plan)

    def __and__(self, other):
        return Shape(step_over_both("both", self.recipe, other.recipe), self._plan)

    def __sub__(self, other):
        return Shape(step_over_both("minus", self.recipe, other.recipe), self._plan)

    def __invert__(self):
        return Shape(step_above("outside", self.recipe), self._plan)

    def __ior__(self, other):
        self.recipe = step_over_both("either", self.recipe, other.recipe)
        self._plan = longer_plan(self._plan, self.recipe)
        return self

    def __iand__(self, other):
        self.recipe = step_over_both("both", self.recipe, other.recipe)
        self._plan = longer_plan(self._plan, self.recipe)
        return self

    def __contains__(self, x):
        if self._plan is None:
            return is_value(x) and answers_for(self.recipe, x)[-1]
        return is_member(self._plan, x)

    def __eq__(self, other):
        return isinstance(other, Shape) and not least_value(step_over_both("differ", self.recipe, other.recipe))

    def __bool__(self):
        return bool(least_value(self.recipe))

    def least(self):
        """A tuple with a least value, or () if there is none."""
        return copy_of(least_value(self.recipe))

    def least_beyond(self, other):
        """A tuple with a least value that is in this shape and not in the other one, or ()."""
        return copy_of(least_value(step_over_both("minus", self.recipe, other.recipe)))

    def within(self, other):
        """Whether all values of this shape are in the other one."""
        return not least_value(step_over_both("minus", self.recipe, other.recipe))

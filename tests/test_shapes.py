"""Shapes: what is in them, changes in place, what they are equal to, and least values."""

import copy
import random
import time
import unittest

from textorlist.shapes import Shape
from textorlist.values import size_of, wrapped
from tests.plain_shapes import TEXT_BOUNDS, built, calls, holds, made_up, values_of_size
from tests.samples import LARGE_VALUES, LETTERS, NO_VALUES, has_twice, nested, shares_list, small_values, spoil

VALUES = small_values() + LARGE_VALUES
SIZED = [(size, value) for size, values in enumerate(values_of_size(6)) for value in values]
TEXTS = ["", "a", "ab", "abc", "abcd", "a" * 398, LETTERS, (LETTERS * 16)[:399]]


def told(shape, values):
    """Which of the values are in a shape; each answer is checked to be True or False."""
    answers = [value in shape for value in values]
    assert all(answer is True or answer is False for answer in answers)
    return answers


def some_shapes():
    """Shapes that differ from each other, made anew at each call."""
    return [
        Shape.never(), Shape.every(), Shape.nothing(), Shape.texts(), Shape.texts(1), Shape.texts(0, 3), Shape.texts(2, 2),
        ~Shape.nothing(), Shape.texts() | Shape.nothing(), Shape.lists(Shape.never()), Shape.lists(Shape.every()),
        Shape.lists(Shape.texts()), Shape.lists(Shape.texts(1)), Shape.nested(Shape.texts()), Shape.nested(Shape.nothing()),
        Shape.lists(Shape.lists(Shape.texts())), Shape.nested(Shape.texts()) - Shape.texts(),
        Shape.lists(Shape.texts(0, 2)), Shape.nested(Shape.texts(0, 2)), Shape.nested(Shape.never()),
    ]


class Simple(unittest.TestCase):
    def test_every_and_never(self):
        self.assertEqual(told(Shape.every(), VALUES), [True] * len(VALUES))
        self.assertEqual(told(Shape.never(), VALUES), [False] * len(VALUES))

    def test_nothing(self):
        self.assertEqual(told(Shape.nothing(), VALUES), [value is None for value in VALUES])

    def test_texts(self):
        for least, most in TEXT_BOUNDS:
            shape = Shape.texts(least, most)
            for text in TEXTS:
                self.assertIs(text in shape, least <= len(text) and (most is None or len(text) <= most))
            for value in (None, [], ["a"], ["ab", "cd"], [[]], [None]):
                self.assertIs(value in shape, False)

    def test_texts_by_name_and_default(self):
        self.assertEqual(told(Shape.texts(), TEXTS), [True] * 8)
        self.assertEqual(told(Shape.texts(2), TEXTS), [False] * 2 + [True] * 6)
        self.assertEqual(told(Shape.texts(most=2), TEXTS), [True] * 3 + [False] * 5)
        self.assertEqual(told(Shape.texts(least=1), TEXTS), [False] + [True] * 7)
        self.assertEqual(told(Shape.texts(most=3, least=2), TEXTS), [False] * 2 + [True] * 2 + [False] * 4)

    def test_least_above_most(self):
        for least, most in ((1, 0), (2, 0), (2, 1), (3, 0), (3, 2)):
            self.assertEqual(told(Shape.texts(least, most), TEXTS), [False] * 8)
            self.assertFalse(Shape.texts(least, most))

    def test_letters(self):
        self.assertEqual(Shape.LETTERS, 3)
        self.assertEqual(Shape.every().LETTERS, 3)

    def test_somewhat_larger_bounds(self):
        for least in range(7):
            for many in range(9):
                self.assertIs("a" * many in Shape.texts(least, 6), least <= many <= 6)
            self.assertEqual(size_of(Shape.texts(least).least()[0]), 1 + least)


class Deeper(unittest.TestCase):
    def test_lists(self):
        rows = [[], ["a"], ["a", "bc"], [None], ["a", None], [None, "a"], [[]], [["a"]], ["a", []], "a", "", None]
        self.assertEqual(told(Shape.lists(Shape.texts()), rows), [True] * 3 + [False] * 9)
        self.assertEqual(told(Shape.lists(Shape.nothing()), rows), [True, False, False, True] + [False] * 8)
        self.assertEqual(told(Shape.lists(Shape.never()), rows), [True] + [False] * 11)
        self.assertEqual(told(Shape.lists(Shape.every()), rows), [True] * 9 + [False] * 3)
        self.assertEqual(told(Shape.lists(Shape.lists(Shape.texts())), rows), [True] + [False] * 5 + [True] * 2 + [False] * 4)
        self.assertEqual(told(Shape.lists(shape=Shape.texts(1, 1)), rows), [True, True] + [False] * 10)

    def test_nested(self):
        rows = ["a", [], ["a"], [["a"], "bc", []], [[[[["a"]]]]], None, [None], [[["a", None]]], "", [[""]]]
        self.assertEqual(told(Shape.nested(Shape.texts(1)), rows), [True] * 5 + [False] * 5)
        self.assertEqual(told(Shape.nested(Shape.texts() | Shape.nothing()), rows), [True] * 10)
        self.assertEqual(told(Shape.nested(Shape.never()), rows), [False, True] + [False] * 8)
        self.assertEqual(told(Shape.nested(shape=Shape.nothing()), rows), [False, True] + [False] * 3 + [True] * 2 + [False] * 3)

    def test_nested_takes_what_is_in_the_shape_whole(self):
        shape = Shape.nested(Shape.lists(Shape.texts(1, 1)))
        rows = [[], ["a"], ["a", "b"], [["a"], []], [["a"], "b"], "a", [["a"], [["b"]]], [None], [["ab"]]]
        self.assertEqual(told(shape, rows), [True] * 4 + [False] * 2 + [True] + [False] * 2)

    def test_large(self):
        text, row = "a" * 399, ["a"] * 199
        self.assertEqual(told(Shape.lists(Shape.texts(1, 1)), [row, row[1:] + ["bc"], row[1:] + [None]]), [True, False, False])
        self.assertEqual(told(Shape.lists(Shape.texts()), [[text], [text[1:], None], text]), [True, False, False])
        self.assertEqual(told(Shape.texts(3), [text, row]), [True, False])
        for times in range(13):
            deep = nested("ab", times)
            self.assertIs(deep in Shape.nested(Shape.texts(2, 2)), True)
            self.assertIs(deep in Shape.nested(Shape.texts(1, 1)), False)
            self.assertIs(deep in Shape.nested(Shape.texts(2)) - Shape.texts(), times > 0)

    def test_eight_lists(self):
        shape = Shape.texts()
        for _ in range(8):
            shape = Shape.lists(shape)
        for times in range(11):
            self.assertIs(nested("ab", times) in shape, times == 8)
            self.assertIs(nested([], times) in shape, times < 8)

    def test_returned_values(self):
        deep = nested("ab", 12)
        for _ in range(200):
            deep = wrapped(deep, ())
        self.assertIs(deep in Shape.nested(Shape.texts(2, 2)), True)
        self.assertIs(deep in Shape.nested(Shape.texts(0, 1)), False)
        self.assertIs([deep, "B"] in Shape.every(), False)


class Operators(unittest.TestCase):
    def test_sets(self):
        one, other = Shape.texts(0, 2), Shape.texts(1) | Shape.nothing()
        for value in VALUES:
            first, second = value in one, value in other
            self.assertIs(value in one | other, first or second)
            self.assertIs(value in one & other, first and second)
            self.assertIs(value in one - other, first and not second)
            self.assertIs(value in other - one, second and not first)
            self.assertIs(value in ~one, not first)
            self.assertIs(value in ~~one, first)

    def test_the_sides_stay(self):
        one, other = Shape.lists(Shape.texts()), Shape.nothing()
        before = told(one, VALUES), told(other, VALUES)
        for made in (one | other, one & other, one - other, ~one, ~other, Shape.lists(one), Shape.nested(other)):
            self.assertIsNot(made, one)
            made |= Shape.every()
            made &= Shape.never()
        self.assertEqual((told(one, VALUES), told(other, VALUES)), before)

    def test_what_is_no_value(self):
        shapes = some_shapes()
        for thing, _ in NO_VALUES:
            for shape in shapes:
                self.assertIs(thing in shape, False)
                self.assertIs(thing in ~shape, False)
                self.assertIs(thing in Shape.every() - shape, False)
                self.assertIs([thing] in Shape.lists(shape) | ~Shape.lists(shape), False)

    def test_made_up_shapes(self):
        rng = random.Random(71)
        values = [value for _, value in SIZED if size_of(value) < 5] + VALUES
        for left in [3, 6, 10, 20, 40] * 30:
            making = made_up(rng, left, 3)
            self.assertLessEqual(calls(making), 40)
            self.assertEqual(told(built(making), values), [holds(making, value) for value in values], making)

    def test_made_up_shapes_with_many_lists(self):
        rng = random.Random(72)
        values = [value for _, value in SIZED]
        for _ in range(40):
            making = made_up(rng, 40, 8)
            self.assertEqual(told(built(making), values), [holds(making, value) for value in values], making)

    def test_forty_operators(self):
        shape = Shape.nothing()
        for at in range(19):
            shape = (shape | Shape.texts(3)) if at % 2 else ~~shape
        self.assertEqual(told(shape, [None, "abc", "ab", []]), [True, True, False, False])


class InPlace(unittest.TestCase):
    def test_all_names_see_it(self):
        shape = Shape.texts()
        same, rows = shape, [shape]
        shape |= Shape.nothing()
        self.assertIs(shape, same)
        self.assertEqual(told(same, [None, "a", []]), [True, True, False])
        rows[0] &= Shape.texts(1) | Shape.lists(Shape.every())
        self.assertIs(rows[0], same)
        self.assertEqual(told(same, [None, "a", "", []]), [False, True, False, False])

    def test_as_the_operators(self):
        for making in [("texts", 1, 2), ("nothing",), ("lists", ("texts", 0, None)), ("nested", ("nothing",)), ("never",)]:
            for beside in [("texts", 0, 1), ("every",), ("nested", ("texts", 0, 3)), ("lists", ("every",))]:
                one, other = built(making), built(beside)
                either, both = one | other, one & other
                one |= other
                self.assertEqual(told(one, VALUES), told(either, VALUES))
                one = built(making)
                one &= other
                self.assertEqual(told(one, VALUES), told(both, VALUES))
                self.assertEqual(told(other, VALUES), told(built(beside), VALUES))

    def test_with_itself(self):
        for shape in some_shapes():
            before = told(shape, VALUES)
            same = shape
            shape |= shape
            shape &= shape
            self.assertIs(shape, same)
            self.assertEqual(told(shape, VALUES), before)

    def test_shapes_made_before_keep_their_values(self):
        shape = Shape.texts(1, 1)
        made = [
            shape | Shape.nothing(), shape & Shape.every(), shape - Shape.nothing(), ~shape, Shape.lists(shape),
            Shape.nested(shape), Shape.nothing() | shape,
        ]
        taken = Shape.nothing()
        taken |= shape
        before = [told(one, VALUES) for one in made]
        shape |= Shape.every()
        self.assertEqual([told(one, VALUES) for one in made], before)
        self.assertEqual(told(taken, ["a", "ab", None]), [True, False, True])
        shape &= Shape.never()
        self.assertEqual([told(one, VALUES) for one in made], before)
        self.assertEqual(told(taken, ["a", "ab", None]), [True, False, True])
        self.assertEqual(told(shape, VALUES), [False] * len(VALUES))

    def test_what_stands_on_the_right_stays(self):
        one, other = Shape.texts(), Shape.nothing()
        one |= other
        one &= other
        self.assertEqual(told(other, [None, "a", []]), [True, False, False])
        other |= Shape.lists(Shape.every())
        self.assertEqual(told(one, [None, "a", []]), [True, False, False])


class Compared(unittest.TestCase):
    def test_same_values_made_otherwise(self):
        e, n, t, x = Shape.every, Shape.nothing, Shape.texts, Shape.never
        pairs = [
            (~x(), e()), (e() - e(), x()), (t(2, 1), x()), (t() - t(1), t(0, 0)), (t(0, 1) | t(2), t()),
            (t(1) & t(0, 1), t(1, 1)), (~(n() | t()), Shape.lists(e())), (Shape.nested(x()) & ~n(), Shape.nested(x())),
            (Shape.nested(n() | t()), e()), (Shape.lists(n() | t() | Shape.lists(e())), Shape.lists(e())),
            (Shape.nested(Shape.nested(t())), Shape.nested(t())), (Shape.nested(e()), e()), (~~t(), t()),
            (Shape.lists(t(3) & t(0, 2)), Shape.lists(x())), (Shape.lists(t()) & Shape.lists(n()), Shape.lists(x())),
            (Shape.lists(Shape.lists(x())) & Shape.lists(t()), Shape.lists(x())),
            (t() | Shape.lists(Shape.nested(t())), Shape.nested(t())), (t(0, 3) | t(3), t()), (t() - n(), t()),
        ]
        for one, other in pairs:
            self.assertIs(one == other, True)
            self.assertIs(other == one, True)
            self.assertIs(one != other, False)
            self.assertIs(one.within(other) and other.within(one), True)
            self.assertEqual((one.least_beyond(other), other.least_beyond(one)), ((), ()))

    def test_different_values(self):
        shapes = some_shapes()
        for at, one in enumerate(shapes):
            for beside, other in enumerate(some_shapes()):
                self.assertIs(one == other, at == beside)
                self.assertIs(one != other, at != beside)

    def test_one_value_more(self):
        e, n, t, x = Shape.every, Shape.nothing, Shape.texts, Shape.never
        for one, other, value in [
            (t(), t(1), ""), (t() | n(), t(), None), (e(), ~Shape.lists(x()), []), (e(), e() - n(), None),
            (Shape.nested(x()) | n(), Shape.nested(x()), None), (Shape.lists(t(0, 0)), Shape.lists(t(0, 0)) - Shape.lists(x()), []),
        ]:
            self.assertIs(one == other, False)
            self.assertIs(other != one, True)
            self.assertIs(other.within(one), True)
            self.assertIs(one.within(other), False)
            self.assertEqual(one.least_beyond(other), (value,))
            self.assertEqual(other.least_beyond(one), ())

    def test_other_classes(self):
        class Beside:
            pass

        for shape in some_shapes():
            for other in (None, True, False, 0, 1, "", "text", [], (), [None], {}, Beside(), Shape):
                self.assertIs(shape == other, False)
                self.assertIs(other == shape, False)
                self.assertIs(shape != other, True)

    def test_bool(self):
        e, n, t, x = Shape.every, Shape.nothing, Shape.texts, Shape.never
        for shape in (e(), n(), t(), t(3), t(3, 3), Shape.lists(x()), Shape.nested(x()), ~x(), e() - n()):
            self.assertIs(bool(shape), True)
        for shape in (x(), ~e(), n() & t(), t(2, 1), n() - n(), Shape.lists(e()) & t(), Shape.lists(x()) & Shape.lists(e()) - Shape.nested(n())):
            self.assertIs(bool(shape), False)

    def test_after_changes_in_place(self):
        shape = Shape.texts()
        self.assertTrue(shape.within(Shape.texts()))
        self.assertEqual(shape, Shape.texts())
        shape |= Shape.nothing()
        self.assertFalse(shape.within(Shape.texts()))
        self.assertNotEqual(shape, Shape.texts())
        self.assertEqual(shape.least_beyond(Shape.texts()), (None,))
        shape &= Shape.texts(2)
        self.assertEqual(shape, Shape.texts(2))
        self.assertEqual(size_of(shape.least()[0]), 3)
        shape &= Shape.nothing()
        self.assertFalse(shape)
        self.assertEqual(shape.least(), ())


class Least(unittest.TestCase):
    def check(self, given, holds_for, values):
        """A told least value against all small values, and whether those are in the difference."""
        self.assertIsInstance(given, tuple)
        sizes = [size for (size, _), inside in zip(SIZED, values) if inside]
        if not given:
            self.assertEqual(sizes, [])
            return
        self.assertEqual(len(given), 1)
        self.assertTrue(holds_for(given[0]))
        self.assertFalse(has_twice(given))
        self.assertEqual(min(size_of(given[0]), 7), min(sizes, default=7))

    def test_few(self):
        self.assertEqual(Shape.nothing().least(), (None,))
        self.assertEqual(Shape.never().least(), ())
        self.assertEqual(Shape.lists(Shape.never()).least(), ([],))
        self.assertEqual(Shape.texts().least(), ("",))
        self.assertEqual(size_of(Shape.texts(3).least()[0]), 4)
        self.assertEqual(size_of((Shape.texts() - Shape.texts(0, 3)).least()[0]), 5)
        self.assertEqual((Shape.lists(Shape.nothing()) - Shape.lists(Shape.never())).least(), ([None],))
        self.assertEqual(Shape.nested(Shape.nothing()).least_beyond(Shape.lists(Shape.nothing()) | Shape.nothing()), ([[]],))
        self.assertEqual(Shape.every().least_beyond(Shape.every()), ())

    def test_large_least_values(self):
        lists, texts = Shape.lists, Shape.texts
        given = lists(lists(lists(texts()))).least_beyond(lists(lists(lists(texts(0, 3)))))
        self.assertEqual(size_of(given[0]), 8)
        self.assertIs(given[0] in lists(lists(lists(texts(3)))), True)
        both = (lists(texts(3) | Shape.nothing()) - lists(texts()) - lists(Shape.nothing())).least()
        self.assertEqual(size_of(both[0]), 6)
        self.assertEqual(sorted(len(item or "") for item in both[0]), [0, 3])
        given = (~lists(texts(1)) & ~lists(texts(0, 2)) & lists(texts())).least()
        self.assertEqual(size_of(given[0]), 6)

    def test_lists_and_longer_texts(self):
        lists, nothing, texts = Shape.lists, Shape.nothing(), Shape.texts
        for shape, value in [
            ((lists(nothing) - lists(Shape.never())) | texts(2, 2), [None]),
            ((lists(nothing | texts(0, 0)) - lists(nothing) - lists(texts(0, 0))) | texts(3, 3), [None, ""]),
            ((lists(texts(0, 1)) - lists(texts(1, 1)) - lists(texts(0, 0))) | texts(3) - texts(0, 3), ["", "a"]),
        ]:
            given = shape.least()
            self.assertEqual(size_of(given[0]), size_of(value))
            self.assertIsInstance(given[0], list)
            self.assertIs(given[0] in shape, True)

    def test_made_up_shapes(self):
        rng = random.Random(73)
        for left in [4, 8, 14, 20] * 30:
            one, other = made_up(rng, left, 3), made_up(rng, left, 3)
            first, second = built(one), built(other)
            in_one = [holds(one, value) for _, value in SIZED]
            in_other = [holds(other, value) for _, value in SIZED]
            self.check(first.least(), lambda value: holds(one, value), in_one)
            self.assertIs(bool(first), first.least() != ())
            for left_side, right_side, making, beside, inside, outside in [
                (first, second, one, other, in_one, in_other), (second, first, other, one, in_other, in_one),
            ]:
                given = left_side.least_beyond(right_side)
                beyond = [here and not there for here, there in zip(inside, outside)]
                self.check(given, lambda value: holds(making, value) and not holds(beside, value), beyond)
                self.assertIs(left_side.within(right_side), given == ())
            self.assertIs(first == second, first.within(second) and second.within(first))

    def test_three_lists_on_one_side(self):
        rng = random.Random(74)
        for _ in range(40):
            making = ("lists", ("nested", ("lists", made_up(rng, 8, 0))))
            shape = built(making)
            self.check(shape.least(), lambda value: holds(making, value), [holds(making, value) for _, value in SIZED])
            self.check(
                Shape.lists(Shape.every()).least_beyond(built(making[1])),
                lambda value: isinstance(value, list) and not holds(making[1], value),
                [isinstance(value, list) and not holds(making[1], value) for _, value in SIZED],
            )

    def test_asked_again(self):
        for shape in some_shapes():
            other = Shape.lists(Shape.texts(0, 0))
            self.assertEqual(shape.least(), shape.least())
            self.assertEqual(shape.least_beyond(other), shape.least_beyond(other))
            before = copy.deepcopy((shape.least(), shape.least_beyond(other)))
            for given in (shape.least(), shape.least_beyond(other)):
                spoil(given)
            self.assertEqual((shape.least(), shape.least_beyond(other)), before)
            self.assertFalse(shares_list(shape.least(), shape.least()))

    def test_no_list_twice(self):
        shape = Shape.lists(Shape.every()) - Shape.lists(Shape.lists(Shape.nothing()))
        self.assertFalse(has_twice(shape.least()))
        two = ~Shape.lists(Shape.nothing()) & ~Shape.lists(~Shape.nothing()) & Shape.lists(Shape.every())
        self.assertEqual(size_of(two.least()[0]), 3)
        self.assertFalse(has_twice(two.least()))

    def test_the_shapes_stay(self):
        for shape in some_shapes():
            before = told(shape, VALUES)
            other = Shape.nested(Shape.texts(1))
            shape.least()
            shape.least_beyond(other=other)
            shape.within(other=other)
            bool(shape)
            self.assertFalse(shape == other)
            self.assertEqual(told(shape, VALUES), before)
            self.assertEqual(told(other, VALUES), told(Shape.nested(Shape.texts(1)), VALUES))


class Arguments(unittest.TestCase):
    def test_values_are_not_changed(self):
        for value in VALUES:
            before = copy.deepcopy(value)
            for shape in some_shapes():
                value in shape
            self.assertEqual(value, before)

    def test_changed_behind_a_question(self):
        value = ["a", ["b"]]
        shape = Shape.nested(Shape.texts())
        self.assertIs(value in shape, True)
        value[1].append(None)
        self.assertIs(value in shape, False)


def changed(rng, shapes, makings):
    """One more shape, or one that is changed in place, with its making; both lists go along with each other."""
    one, other = rng.randrange(len(shapes)), rng.randrange(len(shapes))
    sign = rng.choice(["lists", "nested", "~", "|", "&", "-", "|=", "&="])
    making = (sign[0], makings[one], makings[other]) if sign[0] in "|&-" else (sign, makings[one])
    if calls(making) > 40 or calls(making, ("lists", "nested")) > 8:
        return
    if sign == "|=":
        shapes[one] |= shapes[other]
    elif sign == "&=":
        shapes[one] &= shapes[other]
    else:
        shapes.append({"lists": Shape.lists, "nested": Shape.nested, "~": Shape.__invert__}[sign](shapes[one]) if sign[0] not in "|&-"
                      else {"|": Shape.__or__, "&": Shape.__and__, "-": Shape.__sub__}[sign](shapes[one], shapes[other]))
        makings.append(making)
    makings[one] = making if sign in ("|=", "&=") else makings[one]


class ManyQuestions(unittest.TestCase):
    def test_shapes_from_one_another(self):
        rng = random.Random(58)
        values = [None, "", "a", "ab", "abc", "abcd", [], ["a"], [None, "ab"], [["a"], []], [[["abc"]], None], ["abcd"] * 4, [[], [[]], "a"]]
        asked = yes = 0
        for _ in range(40):
            shapes = [Shape.texts(1, 2), Shape.nothing(), Shape.texts(0, rng.randrange(4)), Shape.every()]
            makings = [("texts", 1, 2), ("nothing",), ("texts", 0, rng.randrange(4)), ("every",)]
            shapes[2] = Shape.texts(*makings[2][1:])
            for _ in range(25):
                changed(rng, shapes, makings)
                at = rng.randrange(len(shapes))
                for value in values[:6] + rng.sample(values, 3):
                    self.assertIs(value in shapes[at], holds(makings[at], value), (makings[at], value))
            for shape, making in zip(shapes, makings):
                for value in values:
                    told = value in shape
                    self.assertIs(told, holds(making, value), (making, value))
                    asked, yes = asked + 1, yes + told
        self.assertGreater(min(yes, asked - yes), 2000)

    def test_more_lists_than_are_asked_for(self):
        shape = Shape.texts()
        for _ in range(12):
            shape = Shape.lists(shape)
        self.assertIn(nested("a", 12), shape)
        self.assertNotIn(nested("a", 11), shape)
        self.assertNotIn(nested(None, 12), shape)
        self.assertNotIn("A", shape | ~shape)

    def test_time(self):
        shape = Shape.never()
        for least in range(4):
            shape |= Shape.lists(Shape.texts(least)) - Shape.nested(Shape.texts(least, least))
        begin = time.perf_counter()
        for _ in range(1000):
            for value in (None, "ab", ["a", "ab"], [["a"], None, "abc"], [], ["", ["abcd"], [[]]]):
                value in shape
        # 6,000 questions: a small part of a second where each takes 4 microseconds.
        self.assertLess(time.perf_counter() - begin, 2)


if __name__ == "__main__":
    unittest.main()

"""Stage 10: whether two programs hand over the same for all values of a shape."""

import random
import unittest

from tests import made_up, plain_shapes
from tests.brute import alike_at, are_apart, deep_value, is_excused, small_values
from tests.samples import has_twice, shares_list, spoil
from tests.test_conducts import EXAMPLE, QUIET, made
from textorlist.comparing import Comparison, compare
from textorlist.conducts import table_of_pairs
from textorlist.errors import TooMany
from textorlist.looker import is_table_of_pairs
from textorlist.programs import Program
from textorlist.runs import run
from textorlist.shapes import Shape
from textorlist.values import places_of, size_of

MANY = Program("def f(w):\n  for x in w[:1]:\n    log.join(x)")


def head(*lines):
    return Program("def f(v):\n  " + "\n  ".join(lines))


class Compare(unittest.TestCase):
    def check(self, one, other, shape, apart, key="", excused=False):
        """apart is None, or a list of all least values for which they are apart, each with the places."""
        told = compare(one, other, shape, key=key, excused=excused)
        self.assertIsInstance(told, Comparison)
        self.assertIs(bool(told), apart is None, (str(one), str(other)))
        if apart is None:
            self.assertIsNone(told.apart)
        else:
            self.assertIn(told.apart, apart)
            self.assertIsInstance(told.apart, tuple)
        self.assertEqual(told.table, table_of_pairs(one, other, shape, key=key, excused=excused))

    def both_orders(self, one, other, shape, apart, key=""):
        self.check(one, other, shape, apart, key)
        self.check(other, one, shape, apart, key)

    def test_a_program_beside_itself(self):
        rng = random.Random(99)
        looked = 0
        while looked < 20:
            program, shape, key = Program(made_up.right_program(rng)), plain_shapes.built(made(rng, 3)), made_up.key(rng)
            try:
                self.check(program, Program(str(program)), shape, None, key, rng.choice([True, False]))
            except TooMany:
                continue
            looked += 1

    def test_three_ways_to_hand_over_items(self):
        ways = [head("for x in v:", "  out(x)"), head("out += v"), head("out(*v)")]
        for one in ways:
            for other in ways:
                self.check(one, other, Shape.every(), None)
        summed = head("out = out + v")
        for one in ways:
            self.both_orders(one, summed, Shape.lists(Shape.every()), None)
            self.both_orders(one, summed, Shape.every(), [("", ())])

    def test_ways_of_runs(self):
        self.both_orders(head("refuse"), QUIET, Shape.every(), [(None, ()), ("", ()), ([], ())])
        self.both_orders(head("refuse"), head("out(v)", "refuse"), Shape.every(), None)
        self.both_orders(head("out += v", "refuse"), head("refuse"), Shape.every(), [(None, ())])
        self.both_orders(head("t.join(v)", "refuse"), head("t.join(v)", "t.join([v])", "refuse"), Shape.texts(), None)
        self.both_orders(head("for x in [v]:", "  f(x)"), head("refuse"), Shape.nothing(), [(None, ())])
        self.both_orders(head("for x in [v]:", "  f(x)"), head("out(v)", "f([v][0])"), Shape.every(), None)
        self.both_orders(head("if nothing v:", "  t += v"), head("if nothing v:", "  refuse"), Shape.every(), [(None, ())])

    def test_where_they_are_apart(self):
        self.both_orders(head("for x in v:", "  out(x)"), head("for x in v[1:]:", "  out(x)"), Shape.lists(Shape.texts()), [([""], (0,))])
        self.both_orders(head("out(v)"), head("log(v)"), Shape.texts(1), [("a", ()), ("b", ())])
        self.both_orders(head("out(v)"), head("out([v])"), Shape.nothing(), [(None, ())])
        self.both_orders(head("out += v"), head("out.join(v)"), Shape.texts(2), [(word, (at,)) for word in ("aa", "ab", "ba", "bb")
                                                                              for at in (0, 1)])
        self.both_orders(head("out += v"), head("if v:", "  out(v[0])"), Shape.lists(Shape.nothing()), [([None, None], (1,))])
        self.both_orders(head("if v:", "  out(v[0])"), head("if v:", "  out(v[-1])"), Shape.texts(),
                         [(word, (at,)) for word in ("aa", "ab", "ba", "bb") for at in (0, 1)])

    def test_how_often(self):
        once, twice, often = head("out(v)"), head("out(v)", "out(v)"), head("out(v)", "out(v)", "out(v)")
        leaves = [(None, ()), ("", ()), ([], ())]
        self.both_orders(QUIET, once, Shape.every(), leaves)
        self.both_orders(QUIET, twice, Shape.every(), leaves)
        self.both_orders(once, twice, Shape.every(), leaves)
        self.both_orders(twice, often, Shape.every(), None)
        self.both_orders(head("for x in v:", "  out(x)", "  log(x)"), head("log += v", "out += v"), Shape.every(), None)

    def test_tests_turned_round(self):
        tests = ["text v", "not (list v or nothing v)", "v and key in [v]", "len [v] = 1 and not text v"]
        for test in tests:
            one = head(f"if {test}:", "  out(v)", "else:", "  refuse")
            other = head(f"if not ({test}):", "  refuse", "else:", "  out(v)")
            self.both_orders(one, other, Shape.every(), None, key="a")
        one = head("if len many(v) < 2:", "  out(v)", "else:", "  log += v")
        other = head("if not len many(v) < 2:", "  log += v", "else:", "  out(v)")
        self.both_orders(one, other, Shape.every(), None)
        self.both_orders(one, head("if len many(v) < 2:", "  log += v", "else:", "  out(v)"), Shape.lists(Shape.nothing()), [([], ())])

    def test_shapes(self):
        one, other = head("for x in v:", "  out(x)"), head("for x in many(v):", "  out(x)")
        self.both_orders(one, other, Shape.lists(Shape.every()), None)
        self.both_orders(one, other, Shape.texts(1, 1), None)
        self.both_orders(one, other, Shape.texts(), [("", ())])
        self.both_orders(one, other, Shape.texts(1) | Shape.lists(Shape.texts()),
                         [(word, place) for word in ("aa", "ab", "ba", "bb") for place in ((), (0,), (1,))])
        self.both_orders(one, other, Shape.never(), None)
        self.both_orders(one, head("for x in some(v):", "  out(x)"), Shape.nothing(), [(None, ())])

    def test_keys(self):
        one, other = head("if key = v:", "  out(v)"), QUIET
        self.both_orders(one, other, Shape.texts(), [("ab", ())], key="ab")
        self.both_orders(one, other, Shape.texts(), [("", ())])
        self.both_orders(one, other, Shape.texts(3), None, key="ab")
        self.both_orders(head("if text v and key in v:", "  out(v)"), one, Shape.texts(3), [("aab", ()), ("bab", ()), ("cab", ()),
                                                                                          ("aba", ()), ("abb", ()), ("abc", ())], key="ab")

    def test_excused(self):
        loop, wraps = head("for x in v:", "  out(x)"), head("for x in many(v):", "  out(x)")
        texts = Shape.texts()
        self.check(loop, wraps, texts, [("", ())])
        self.check(loop, wraps, texts, None, excused=True)
        self.check(wraps, loop, texts, [("", ())], excused=True)
        self.check(loop, head("for x in v:", "  out([x])"), texts, [("a", ()), ("b", ())], excused=True)
        self.check(head("for x in [v]:", "  f(x)"), QUIET, Shape.every(), None, excused=True)
        self.check(QUIET, head("for x in [v]:", "  f(x)"), Shape.every(), [(None, ()), ("", ()), ([], ())], excused=True)
        self.check(head("out += v", "refuse"), QUIET, texts, [("a", ()), ("b", ())], excused=True)
        self.check(head("out += v"), QUIET, Shape.nothing(), [(None, ())], excused=True)

    def test_all_values(self):
        rng = random.Random(100)
        found = {True: 0, False: 0}
        while min(found.values()) < 16:
            one, making, key, excused = Program(made_up.right_program(rng)), made(rng, 4), rng.choice(["", "a"]), rng.choice([True, False])
            other = Program(made_up.right_program(rng))
            plain = [spot for spot, (_, form) in enumerate(one.spots()) if form == "plain"]
            if rng.randrange(4) and plain:
                other = one.marked([(spot, rng.choice(["many", "wrap"])) for spot in rng.sample(plain, 1)])
            shape = plain_shapes.built(making)
            try:
                told = compare(one, other, shape, key=key, excused=excused)
            except TooMany:
                continue
            found[bool(told)] += 1
            apart = []
            for value in small_values(key) + [deep_value(rng) for _ in range(15)]:
                if plain_shapes.holds(making, value):
                    first, second = run(one, value, key=key), run(other, value, key=key)
                    if not (excused and is_excused(first)) and are_apart(first, second):
                        apart.append(value)
            if told:
                self.assertEqual(apart, [], (str(one), str(other), making, key, excused))
                continue
            value, place = told.apart
            first, second = run(one, value, key=key), run(other, value, key=key)
            self.assertIn(place, places_of(value))
            self.assertTrue(plain_shapes.holds(making, value))
            self.assertFalse(alike_at(first, second, place))
            self.assertFalse(excused and is_excused(first))
            if size_of(value) < 5:
                self.assertEqual(size_of(apart[0]), size_of(value), (str(one), str(other), making, key, excused))
            elif apart:
                self.assertLessEqual(size_of(value), size_of(apart[0]))

    def test_errors(self):
        with self.assertRaises(TooMany) as caught:
            compare(MANY, MANY, Shape.texts(3), key="abc")
        self.assertEqual(caught.exception.what, "conducts")

    def test_new_and_stable(self):
        shape = Shape.lists(Shape.lists(Shape.texts(0, 1)))
        told = compare(EXAMPLE, head("for x in v:", "  out([x])"), shape)
        one = (told.table, told.apart)
        shown = repr(one)
        self.assertTrue(is_table_of_pairs(told.table, EXAMPLE, head("for x in v:", "  out([x])"), shape))
        self.assertEqual(told.apart, ([[]], (0,)))
        self.assertFalse(has_twice(one))
        self.assertFalse(shares_list(one, (told.table, told.apart)))
        spoil(one[0])
        spoil(one[1])
        shape &= Shape.never()
        self.assertEqual(repr((told.table, told.apart)), shown)
        self.assertFalse(told)

    def test_arguments_by_name(self):
        loop, wraps = head("for x in v:", "  out(x)"), head("for x in many(v):", "  out(x)")
        self.assertTrue(compare(excused=True, key="a", shape=Shape.texts(), other=wraps, one=loop))
        self.assertFalse(compare(other=wraps, one=loop, shape=Shape.texts()))


if __name__ == "__main__":
    unittest.main()

"""Stage 7: whether a thing is a table, whoever made it."""

import random
import unittest

from tests import made_up, plain_conducts, plain_shapes
from tests.plain_runs import TooLong
from tests.samples import NO_VALUES, nested
from tests.test_conducts import EXAMPLE, NO_FATES, QUIET, bad_of, made
from textorlist.conducts import same_conduct, table, table_of_pairs
from textorlist.errors import BadFate, TooMany
from textorlist.looker import is_table, is_table_of_pairs
from textorlist.programs import Program
from textorlist.shapes import Shape
from textorlist.values import places_of, size_of

WALK = Program("def f(v):\n  for x in v:\n    if list x:\n      f(x)\n    else:\n      out += x")
THINGS = [None, True, 0, 7, "", "ab", [], ["a"], (), (1,), ((),), ("A",), [()], {}, nested((), 13)]


def changed(rng, tuple_, others):
    """A tuple with some change."""
    rows = list(tuple_)
    at, pick = rng.randrange(len(rows)), rng.randrange(4)
    if pick == 0:
        del rows[at]
    elif pick == 1:
        rows[at] = rng.choice(others)
    else:
        rows += [rng.choice(others), rows[at]]
        rng.shuffle(rows)
    return tuple(rows)


class Tables(unittest.TestCase):
    def test_example(self):
        told = (None, "", [], "a", [None], "ab", [None, None])
        for bad in (["slip"], ["fail"]):
            self.assertIs(is_table(told, EXAMPLE, Shape.every(), bad=bad), True)
            self.assertIs(is_table(told, EXAMPLE, Shape.lists(Shape.texts()), bad=bad), False)
        self.assertTrue(is_table(told[::-1], EXAMPLE, Shape.every(), bad=["slip"]))
        self.assertTrue(is_table(told, EXAMPLE, Shape.every()))

    def test_what_table_returns(self):
        rng = random.Random(80)
        looked = 0
        while looked < 8:
            program, making, key, bad = Program(made_up.right_program(rng)), made(rng, 5), made_up.key(rng), bad_of(rng)
            shape = plain_shapes.built(making)
            try:
                told = table(program, shape, bad=bad, key=key)
            except TooMany:
                continue
            looked += 1
            rows = list(told)
            self.assertTrue(is_table(tuple(rows), program, shape, bad=bad, key=key))
            self.assertFalse(is_table(rows, program, shape, bad=bad, key=key))
            for at in range(len(rows)):
                self.assertFalse(is_table(tuple(rows[:at] + rows[at + 1:]), program, shape, bad=bad, key=key))
            rng.shuffle(rows)
            more = [*rows, rows[0], [None, "zz", ["ab"]], "zyx", rows[-1], None]
            self.assertTrue(is_table(tuple(more), program, shape, bad=bad, key=key))
            self.assertTrue(is_table(tuple(more[::-1]), program, shape, bad=bad, key=key))

    def test_greater_ones_of_the_same_conduct(self):
        shape = Shape.every()
        told = table(WALK, shape)
        for at, value in enumerate(told):
            for greater in ("b", "zzz", "aaaa", [None, None, None], [[], [], []], ["bc"], ["b"], [["a"]], [["b", "a"]]):
                if same_conduct(WALK, shape, value, greater):
                    self.assertIs(is_table((*told[:at], greater, *told[at + 1:]), WALK, shape), size_of(greater) == size_of(value))
                    self.assertTrue(is_table((greater, *told), WALK, shape))

    def test_other_least_ones(self):
        self.assertTrue(is_table((None, "", [], "z", [[]], "yz", ["", None]), EXAMPLE, Shape.every()))
        self.assertFalse(is_table((None, "", [], "z", ["b"], "yz", ["", None]), EXAMPLE, Shape.every()))

    def test_no_tables(self):
        for thing in THINGS:
            self.assertIs(is_table(thing, EXAMPLE, Shape.every()), False)
        told = table(EXAMPLE, Shape.every())
        self.assertFalse(is_table(list(told), EXAMPLE, Shape.every()))
        self.assertFalse(is_table([told], EXAMPLE, Shape.every()))
        for thing, _ in NO_VALUES:
            self.assertFalse(is_table((*told, thing), EXAMPLE, Shape.every()))
            self.assertFalse(is_table((thing, *told[1:]), EXAMPLE, Shape.every()))
            self.assertFalse(is_table((*told, [thing]), EXAMPLE, Shape.every()))
        self.assertFalse(is_table(tuple((value, None) for value in told), EXAMPLE, Shape.every()))

    def test_errors(self):
        many, shape = Program("def f(y):\n  for y in some(y)[:1]:\n    f(y[-1])"), Shape.nested(Shape.texts(1))
        for thing in [*THINGS, table(EXAMPLE, Shape.every())]:
            with self.assertRaises(TooMany) as caught:
                is_table(thing, many, shape, key="ab")
            self.assertEqual(caught.exception.what, "conducts")
            with self.assertRaises(BadFate) as error:
                is_table(thing, many, shape, key="ab", bad=["slip", "none"])
            self.assertEqual(error.exception.at, 1)
        for thing in NO_FATES:
            with self.assertRaises(BadFate):
                is_table(None, EXAMPLE, Shape.every(), bad=[thing])

    def test_second_opinion(self):
        rng = random.Random(81)
        told = [0, 0]
        while sum(told) < 200:
            text, making, key, bad = made_up.right_program(rng), made(rng, 4), made_up.key(rng), bad_of(rng)
            program, shape = Program(text), plain_shapes.built(making)
            sign = plain_conducts.remembered(lambda value: plain_conducts.conduct(text, making, value, bad, key))
            try:
                rows = table(program, shape, bad=bad, key=key)
            except TooMany:
                continue
            if len(rows) > 16:
                continue
            others = [made_up.value(rng) for _ in range(8)]
            for _ in range(5):
                thing = changed(rng, rows, others)
                try:
                    same = plain_conducts.shows_all(sign, size_of, thing, plain_conducts.starts, plain_conducts.grown, key)
                except TooLong:
                    continue
                self.assertIs(is_table(thing, program, shape, bad=bad, key=key), same, (text, making, bad, key, thing))
                told[same] += 1
        self.assertGreater(min(told), 40)

    def test_arguments_by_name(self):
        told = table(WALK, Shape.texts(1), bad=["letter"], key="a")
        self.assertTrue(is_table(key="a", bad=["letter"], shape=Shape.texts(1), program=WALK, thing=told))


class PairTables(unittest.TestCase):
    def test_what_table_of_pairs_returns(self):
        rng = random.Random(82)
        looked = 0
        while looked < 4:
            one, other = Program(made_up.right_program(rng)), Program(made_up.right_program(rng))
            shape, key, excused = plain_shapes.built(made(rng, 3)), made_up.key(rng), rng.choice([True, False])
            try:
                told = table_of_pairs(one, other, shape, key=key, excused=excused)
            except TooMany:
                continue
            looked += 1
            rows = list(told)

            def ask(thing):
                return is_table_of_pairs(thing, one, other, shape, key=key, excused=excused)

            self.assertIs(ask(told), True)
            self.assertIs(ask(rows), False)
            for at in range(len(rows)):
                self.assertFalse(ask(tuple(rows[:at] + rows[at + 1:])))
            rng.shuffle(rows)
            more = [*rows, rows[0], (["ab", None], (0, 1)), ("zyx", None), rows[-1]]
            self.assertTrue(ask(tuple(more)))
            self.assertFalse(ask((*more, "zyx")))

    def test_greater_ones_of_the_same_conduct(self):
        told = table_of_pairs(QUIET, QUIET, Shape.every())
        for at, (value, place) in enumerate(told):
            greater = value + "b" if value == "aa" else None
            if value == "aa" and place is not None:
                thing = (*told[:at], (greater, place), *told[at + 1:])
                self.assertFalse(is_table_of_pairs(thing, QUIET, QUIET, Shape.every()))
        same = tuple((value, place if place in (None, ()) else (len(value) - 1,)) for value, place in told)
        self.assertTrue(is_table_of_pairs(same, QUIET, QUIET, Shape.every()))

    def test_no_tables(self):
        told = table_of_pairs(EXAMPLE, QUIET, Shape.every())

        def ask(thing):
            return is_table_of_pairs(thing, EXAMPLE, QUIET, Shape.every())

        self.assertTrue(ask(told))
        for thing in [*THINGS, list(told), tuple(list(pair) for pair in told), tuple(value for value, _ in told)]:
            self.assertIs(ask(thing), False)
        for thing in THINGS + [
            ("a",), ("a", None, None), ["a", None], ("a", (0,)), ("ab", (2,)), ("ab", (-1,)), ("ab", (True,)), ("ab", [0]),
            ("ab", 0), ("ab", "0"), (["a"], (0, 0)), (None, (0,)), ("A", None), ((), None), ([1], None), ([1], (0,)),
            ("ab", (0, 0)), ("ab", False), ("ab", ((),)), ("ab", (0.0,)),
        ]:
            self.assertIs(ask((*told, thing)), False)
            self.assertIs(ask((thing, *told)), False)
        for pair in [("ab", (1,)), (["a"], (0,)), (["ab"], (0, 1)), ("a", ()), (None, None), ([[["a"]]], (0, 0, 0))]:
            self.assertIs(ask((*told, pair)), True)

    def test_errors(self):
        many, shape = Program("def f(w):\n  for x in w[:1]:\n    log.join(x)"), Shape.texts(3)
        for thing in [*THINGS, table_of_pairs(EXAMPLE, QUIET, Shape.every())]:
            with self.assertRaises(TooMany) as caught:
                is_table_of_pairs(thing, many, many, shape, key="abc")
            self.assertEqual(caught.exception.what, "conducts")

    def test_excused(self):
        slips = Program("def f(v):\n  for x in v:\n    out(x)\n    if text x:\n      out(x)\n      log += x\n      return")
        plain = table_of_pairs(slips, QUIET, Shape.every())
        excused = table_of_pairs(slips, QUIET, Shape.every(), excused=True)
        self.assertTrue(is_table_of_pairs(plain, slips, QUIET, Shape.every(), excused=False))
        self.assertTrue(is_table_of_pairs(excused, slips, QUIET, Shape.every(), excused=True))
        self.assertFalse(is_table_of_pairs(excused, slips, QUIET, Shape.every()))
        self.assertTrue(is_table_of_pairs(plain, QUIET, slips, Shape.every(), excused=True))

    def test_second_opinion(self):
        rng = random.Random(83)
        told = [0, 0]
        while sum(told) < 20:
            text, beside = made_up.right_program(rng), made_up.right_program(rng)
            making, key, excused = made(rng, 2), rng.choice(["", "a", "ab"]), rng.choice([True, False])
            sign = plain_conducts.remembered(
                lambda pair: plain_conducts.pair_conduct(text, beside, making, *pair, key, excused))
            one, other, shape = Program(text), Program(beside), plain_shapes.built(making)
            try:
                rows = table_of_pairs(one, other, shape, key=key, excused=excused)
            except TooMany:
                continue
            if len(rows) > 24:
                continue
            others = [(value, rng.choice([None, *places_of(value)])) for value in [made_up.value(rng) for _ in range(8)]]
            for _ in range(4):
                thing = changed(rng, rows, others)
                try:
                    same = plain_conducts.shows_all(
                        sign, lambda pair: size_of(pair[0]), thing, plain_conducts.pair_starts, plain_conducts.grown_pairs, key)
                except TooLong:
                    continue
                self.assertIs(is_table_of_pairs(thing, one, other, shape, key=key, excused=excused), same,
                              (text, beside, making, key, excused, thing))
                told[same] += 1
        self.assertGreater(min(told), 3)

    def test_arguments_by_name(self):
        told = table_of_pairs(EXAMPLE, WALK, Shape.texts(1), key="a", excused=True)
        self.assertTrue(is_table_of_pairs(excused=True, key="a", shape=Shape.texts(1), other=WALK, one=EXAMPLE, thing=told))


if __name__ == "__main__":
    unittest.main()

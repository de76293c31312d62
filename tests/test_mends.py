"""Stage 11: the fewest wraps with which a program takes a text for the list of it."""

import itertools
import random
import unittest

from tests import made_up, plain_shapes
from tests.brute import alike_at, are_apart, is_excused, small_values
from tests.samples import has_twice, shares_list, spoil
from tests.test_conducts import QUIET, made
from textorlist.comparing import compare
from textorlist.errors import TooMany
from textorlist.judging import judge
from textorlist.mends import Mends, least_mends
from textorlist.programs import Program
from textorlist.runs import run
from textorlist.shapes import Shape
from textorlist.values import places_of, size_of

EXAMPLE = Program("def each(w):\n  for x in w:\n    out(x)\ndef main(v):\n  each(v)")
TWO = Program("def main(v):\n  for x in v:\n    out(x)\n  log += v")
THREE = Program("def main(v):\n  for x in v:\n    out += many(x)\n  log += v\n  t = t + v")


def all_mends(program):
    """All mends of a program, as the document says it."""
    plain = [spot for spot, (_, form) in enumerate(program.spots()) if form == "plain"]
    found = []
    for marks in itertools.product((None, "many", "wrap"), repeat=len(plain)):
        found.append(tuple((spot, mark) for spot, mark in zip(plain, marks) if mark))
    return sorted(found, key=lambda mend: (len(mend), mend))


def plain_mends(program, shape, key):
    """The least good mends and what shows that the others are bad, by judge and compare; or what there are too many of."""
    if sum(form == "plain" for _, form in program.spots()) > 3:
        return "plain"
    good, bad = [], {}
    for count in range(4):
        faults = {}
        for mend in [mend for mend in all_mends(program) if len(mend) == count]:
            try:
                verdict = judge(program.marked(mend), shape, key=key)
                if verdict:
                    fault = compare(program, program.marked(mend), shape, key=key, excused=True).apart
                else:
                    fault = (verdict.met[0], None)
            except TooMany as error:
                return error.what
            if fault is None:
                good.append(mend)
            faults[mend] = fault
        if good:
            break
        bad.update(faults)
    return good, bad


class LeastMends(unittest.TestCase):
    def check(self, program, shape, sets, bad=None, key=""):
        told = least_mends(program, shape, key=key)
        self.assertIsInstance(told, Mends)
        self.assertEqual(told.sets, sets)
        self.assertIs(bool(told), bool(sets))
        fewer = [mend for mend in all_mends(program) if not sets or len(mend) < len(sets[0])]
        self.assertEqual(sorted(told.bad), sorted(fewer))
        for mend, (value, place) in (bad or {}).items():
            self.assertEqual(told.bad[mend], (value, place))
        return told

    def test_example(self):
        texts = Shape.texts()
        sets = [((0, "many"),), ((0, "wrap"),), ((2, "many"),), ((2, "wrap"),)]
        self.check(EXAMPLE, texts, sets, {(): ("", None)})
        both = texts | Shape.lists(texts)
        told = self.check(EXAMPLE, both, [((0, "many"),), ((2, "many"),)], {(): ("", None)})
        self.assertEqual(list(told.bad), [()])
        more = EXAMPLE.marked([(0, "many"), (2, "wrap")])
        self.assertTrue(judge(more, texts) and compare(EXAMPLE, more, texts, excused=True))
        more = EXAMPLE.marked([(0, "wrap"), (2, "wrap")])
        told = compare(EXAMPLE, more, texts, excused=True)
        self.assertEqual((size_of(told.apart[0]), told.apart[1]), (2, ()))

    def test_no_mend_needed(self):
        lists = Shape.lists(Shape.texts())
        self.check(EXAMPLE, lists, [()], {})
        self.assertEqual(least_mends(EXAMPLE, lists).bad, {})
        self.check(QUIET, Shape.every(), [()])
        self.check(EXAMPLE, Shape.never(), [()])
        self.check(EXAMPLE, Shape.texts(1, 1), [()])
        self.check(EXAMPLE, Shape.nothing(), [()])

    def test_no_mend_good(self):
        program = Program("def f(v):\n  for x in [v]:\n    f(x)")
        told = self.check(program, Shape.every(), [])
        self.assertEqual(told.bad[()][1], None)
        self.assertEqual(size_of(told.bad[()][0]), 1)
        program = Program("def main(v):\n  if key in v:\n    refuse\n  if len v = 2:\n    out(v)")
        self.check(program, Shape.texts() | Shape.lists(Shape.texts()), [((0, "many"), (1, "many"))], key="ab")
        program = Program("def main(v):\n  for x in v:\n    out(x)\n  for y in [v]:\n    main(y)")
        told = self.check(program, Shape.every(), [])
        self.assertEqual(len(told.bad), 9)
        self.assertTrue(all(size_of(value) == 1 and place is None for value, place in told.bad.values()))

    def test_mends_of_two_and_three_pairs(self):
        texts = Shape.texts()
        marks = ("many", "wrap")
        self.check(TWO, texts, [((0, one), (2, other)) for one in marks for other in marks], {(): ("", None)})
        both = texts | Shape.lists(texts)
        self.check(TWO, both, [((0, "many"), (2, "many"))])
        self.check(THREE, both, [((0, mark), (2, "many"), (3, "many")) for mark in marks])
        self.check(THREE, texts, [((0, one), (2, other), (3, last)) for one in marks for other in marks for last in marks])

    def test_values_and_places(self):
        both = Shape.texts() | Shape.lists(Shape.texts())
        told = self.check(EXAMPLE, Shape.texts() | Shape.lists(Shape.texts()), [((0, "many"),), ((2, "many"),)])
        self.assertEqual(told.bad, {(): ("", None)})
        told = self.check(TWO, both, [((0, "many"), (2, "many"))])
        self.assertEqual(told.bad[((0, "wrap"),)], ("", None))
        self.assertEqual(told.bad[((2, "many"),)], ("", None))
        program = Program("def main(v):\n  for x in v:\n    for y in x:\n      out(y)")
        told = self.check(program, Shape.lists(Shape.texts(0, 1)), [((0, "wrap"),), ((1, "many"),), ((1, "wrap"),)])
        value, place = told.bad[()]
        self.assertEqual((size_of(value), place), (2, None))

    def test_apart_with_a_place(self):
        program = Program("def each(w):\n  out += w\n  log += w\n  if text w:\n    end([w][0])\ndef main(v):\n  each(v)")
        marks = ("many", "wrap")
        told = self.check(program, Shape.texts(), [((0, one), (1, other)) for one in marks for other in marks])
        self.assertEqual(list(told.bad), [(), ((0, "many"),), ((0, "wrap"),), ((1, "many"),), ((1, "wrap"),), ((3, "many"),), ((3, "wrap"),)])
        for mend in marks:
            self.assertEqual(told.bad[((0, mend),)], ("", None))
            value, place = told.bad[((3, mend),)]
            self.assertEqual((size_of(value), place), (2, ()))

    def test_what_is_not_slipping_stays(self):
        program = Program("def main(v):\n  if len v > 1:\n    out(v)")
        shape = Shape.texts(1, 1) | Shape.texts(2) | Shape.lists(Shape.texts(1, 1))
        told = self.check(program, shape, [((0, "many"),)])
        self.assertEqual((size_of(told.bad[()][0]), told.bad[()][1]), (3, None))
        program = Program("def main(v):\n  if text v:\n    for x in v:\n      out(x)\n  else:\n    log(v)")
        self.check(program, Shape.every(), [((0, "many"),), ((0, "wrap"),)])

    def test_second_opinion(self):
        rng = random.Random(101)
        counts = {}
        while min([counts.get(sort, 0) for sort in ("none", 0, 1)]) < 4 or counts.get("conducts", 0) < 3:
            program, shape, key = Program(made_up.right_program(rng)), plain_shapes.built(made(rng, 4)), made_up.key(rng)
            if sum(form == "plain" for _, form in program.spots()) == 3 and rng.randrange(4):
                continue
            expected = plain_mends(program, shape, key)
            if isinstance(expected, str):
                counts[expected] = counts.get(expected, 0) + 1
                with self.assertRaises(TooMany) as caught:
                    least_mends(program, shape, key=key)
                self.assertEqual(caught.exception.what, expected)
                continue
            told = least_mends(program, shape, key=key)
            good, bad = expected
            self.assertEqual(told.sets, sorted(good))
            self.assertEqual(list(told.bad), list(bad))
            for mend in bad:
                self.assertEqual(size_of(told.bad[mend][0]), size_of(bad[mend][0]))
                self.assertEqual(told.bad[mend][1] is None, bad[mend][1] is None)
            sort = len(good[0]) if good else "none"
            counts[sort] = counts.get(sort, 0) + 1

    def test_runs(self):
        rng = random.Random(102)
        looked = 0
        while looked < 12:
            program, making, key = Program(made_up.right_program(rng)), made(rng, 4), rng.choice(["", "a"])
            try:
                told = least_mends(program, plain_shapes.built(making), key=key)
            except TooMany:
                continue
            if told.sets == [()] and rng.randrange(5):
                continue
            looked += 1
            values = [value for value in small_values(key) if plain_shapes.holds(making, value)]
            for mend in told.sets:
                for value in values:
                    first, second = run(program, value, key=key), run(program.marked(mend), value, key=key)
                    self.assertFalse(is_excused(second))
                    self.assertTrue(is_excused(first) or not are_apart(first, second))
            for mend, (value, place) in told.bad.items():
                first, second = run(program, value, key=key), run(program.marked(mend), value, key=key)
                self.assertTrue(plain_shapes.holds(making, value))
                if place is None:
                    self.assertTrue(is_excused(second))
                else:
                    self.assertIn(place, places_of(value))
                    self.assertFalse(is_excused(first) or alike_at(first, second, place))

    def test_marked_programs_need_none(self):
        both = Shape.texts() | Shape.lists(Shape.texts())
        for program in (EXAMPLE, TWO, THREE):
            for shape in (both, Shape.texts()):
                for mend in least_mends(program, shape).sets:
                    told = least_mends(program.marked(mend), shape)
                    self.assertEqual(told.sets, [()])
                    self.assertEqual(told.bad, {})

    def test_too_many_plain_spots(self):
        four = Program("def main(v):\n  for x in v:\n    out(x)\n  log += v\n  t += v")
        for shape in (Shape.every(), Shape.never(), Shape.texts()):
            with self.assertRaises(TooMany) as caught:
                least_mends(four, shape)
            self.assertEqual(caught.exception.what, "plain")
        many = Program("def f(y):\n  for y in some(y)[:1]:\n    f(y[-1])\n    f(*y)\n    t += y\n    t.join(y)")
        with self.assertRaises(TooMany) as caught:
            least_mends(many, Shape.nested(Shape.texts(1)), key="ab")
        self.assertEqual(caught.exception.what, "plain")
        self.check(THREE, Shape.never(), [()])

    def test_too_many_conducts(self):
        many = Program("def f(y):\n  for y in some(y)[:1]:\n    f(y[-1])")
        with self.assertRaises(TooMany) as caught:
            least_mends(many, Shape.nested(Shape.texts(1)), key="ab")
        self.assertEqual(caught.exception.what, "conducts")
        pairs = Program("def g(x):\n  for x in x:\n    g(x[-1])")
        self.assertTrue(judge(pairs, Shape.nothing(), key="a"))
        with self.assertRaises(TooMany):
            compare(pairs, pairs, Shape.nothing(), key="a", excused=True)
        with self.assertRaises(TooMany) as caught:
            least_mends(pairs, Shape.nothing(), key="a")
        self.assertEqual(caught.exception.what, "conducts")

    def test_no_more_is_looked_at_than_needed(self):
        for text, shape, key, sets, later in [
            ("def f(v):\n  for w in v:\n    f(*w)", Shape.nothing(), "", [()], ((1, "wrap"),)),
            ("def f(w):\n  for w in w[1:]:\n    f(w[-1])", Shape.lists(Shape.texts()), "ab", [((0, "wrap"),)],
             ((0, "many"), (1, "many"))),
        ]:
            program = Program(text)
            self.check(program, shape, sets, key=key)
            with self.assertRaises(TooMany):
                compare(program, program.marked(later), shape, key=key, excused=True)

    def test_new_and_stable(self):
        shape = Shape.lists(Shape.texts()) | Shape.texts()
        told = least_mends(TWO, shape)
        shown = repr((told.sets, told.bad))
        one = (told.sets, told.bad)
        self.assertFalse(has_twice(list(one[1].values())))
        self.assertFalse(shares_list(list(one[1].values()), list(told.bad.values())))
        one[0].append("more")
        spoil(list(one[1].values()))
        one[1].clear()
        shape &= Shape.never()
        self.assertEqual(repr((told.sets, told.bad)), shown)
        self.assertTrue(told)

    def test_arguments_by_name(self):
        told = least_mends(key="a", shape=Shape.texts(), program=EXAMPLE)
        self.assertEqual(told.sets, least_mends(EXAMPLE, Shape.texts()).sets)
        keyed = Program("def main(v):\n  if key in v:\n    out(v)")
        self.assertEqual(least_mends(keyed, Shape.texts(1, 1), key="").sets, [((0, "many"),), ((0, "wrap"),)])
        self.assertEqual(least_mends(keyed, Shape.texts(1, 1), key="a").sets, [()])


if __name__ == "__main__":
    unittest.main()

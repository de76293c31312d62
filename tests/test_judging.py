"""Stage 8: verdicts on programs for all values of a shape."""

import random
import unittest

from tests import made_up, plain_shapes
from tests.brute import deep_value, runs_on, small_values
from tests.samples import has_twice, nested, shares_list, spoil
from tests.test_conducts import EXAMPLE, NO_FATES, QUIET, bad_of, made
from textorlist.conducts import table
from textorlist.errors import BadFate, NoFunction, TooMany
from textorlist.judging import Verdict, bears, greatest, judge, survey, survey_page
from textorlist.looker import is_table
from textorlist.programs import Program
from textorlist.runs import run
from textorlist.shapes import Shape
from textorlist.values import size_of

KINDS = ("slip", "letter", "fail", "refuse", "endless")
MANY = Program("def f(y):\n  for y in some(y)[:1]:\n    f(y[-1])")
MANY_SHAPE = Shape.nested(Shape.texts(1))
TWO = Program("def each(w):\n  for x in w:\n    out(x)\ndef main(v):\n  for x in some(v):\n    if key = x:\n      refuse\n    each(x)")
WALK = Program("def f(v):\n  for x in v:\n    if list x or text x:\n      f(x)\n    else:\n      out(x)")


class Judge(unittest.TestCase):
    def check(self, program, shape, met, bad=("slip", "endless"), key=""):
        """met is None, or a list of all least values of the shape that meet a bad fate."""
        verdict = judge(program, shape, bad=bad, key=key)
        self.assertIsInstance(verdict, Verdict)
        self.assertIs(bool(verdict), met is None)
        if met is None:
            self.assertIsNone(verdict.met)
            self.assertEqual(len(verdict), 0)
        else:
            self.assertIsInstance(verdict.met, tuple)
            self.assertEqual(len(verdict.met), 1)
            self.assertIn(verdict.met[0], met)
            self.assertEqual(len(verdict), size_of(met[0]))
        self.assertEqual(verdict.table, table(program, shape, bad=bad, key=key))

    def test_each_kind(self):
        every = Shape.every()
        self.check(EXAMPLE, every, [""])
        self.check(EXAMPLE, every, [""], bad=["slip"])
        self.check(EXAMPLE, every, ["ab", "aa", "ba", "bb"], bad=["letter"])
        self.check(EXAMPLE, every, [None], bad=["fail"])
        self.check(EXAMPLE, every, None, bad=["refuse"])
        self.check(EXAMPLE, every, None, bad=["endless"])
        self.check(EXAMPLE, every, None, bad=[])
        self.check(TWO, every, ["ab"], bad=["refuse"], key="ab")
        self.check(TWO, every, [""], bad=["refuse"])
        self.check(WALK, every, ["a", "b"], bad=["endless"])
        self.check(WALK, every, ["a", "b"], bad=[("endless", 3)])

    def test_fates_at_lines(self):
        every = Shape.every()
        self.check(EXAMPLE, every, [""], bad=[("slip", 1)])
        self.check(EXAMPLE, every, None, bad=[("slip", 2), ("letter", 1), ("fail", 0), ("slip", 99), ("slip", -1)])
        self.check(TWO, Shape.lists(every), [[""]], bad=[("slip", 1)], key="a")
        self.check(TWO, Shape.lists(every), None, bad=[("slip", 4)], key="a")
        self.check(TWO, Shape.texts(), [""], bad=[("slip", 1)], key="a")

    def test_shapes(self):
        self.check(EXAMPLE, Shape.texts(2), ["aa", "ab", "ba", "bb"])
        self.check(EXAMPLE, Shape.texts(1, 1), None, bad=KINDS)
        self.check(EXAMPLE, Shape.lists(Shape.every()), None, bad=KINDS)
        self.check(EXAMPLE, Shape.nothing(), None)
        self.check(EXAMPLE, Shape.nothing(), [None], bad=["fail"])
        self.check(EXAMPLE, ~Shape.texts(0, 2), None, bad=["refuse"])
        self.assertEqual(len(judge(EXAMPLE, ~Shape.texts(0, 2))), 4)
        self.assertEqual(len(judge(EXAMPLE, Shape.texts(3))), 4)

    def test_letters_in_wraps(self):
        program = Program("def g(w):\n  if key in w:\n    refuse\n  out(w[0])\ndef f(v):\n  for x in v:\n    g([x])")
        self.check(program, Shape.texts(2), ["aa", "ab", "ba"], bad=["refuse"], key="a")
        self.check(program, Shape.texts(2), ["aa", "ab", "ba", "bb"], bad=["slip"], key="a")
        self.check(program, Shape.lists(Shape.every()), [["a"]], bad=["refuse"], key="a")
        self.check(program, Shape.lists(Shape.every()), None, bad=["letter", "fail", "slip"], key="a")

    def test_shapes_without_values(self):
        for shape in (Shape.never(), Shape.texts(2, 1), Shape.nothing() & Shape.texts(), ~Shape.every()):
            self.check(EXAMPLE, shape, None, bad=KINDS)
            self.check(WALK, shape, None, bad=KINDS)

    def test_several_kinds_beside_each(self):
        rng = random.Random(90)
        looked = 0
        while looked < 30:
            program, making, key = Program(made_up.right_program(rng)), made(rng, 4), made_up.key(rng)
            shape = plain_shapes.built(making)
            some = rng.sample(KINDS, 3)
            try:
                sizes = [len(judge(program, shape, bad=[kind], key=key)) for kind in some]
                together = judge(program, shape, bad=some, key=key)
            except TooMany:
                continue
            looked += 1
            self.assertEqual(len(together), min([size for size in sizes if size], default=0))

    def test_shapes_beside_each_other(self):
        rng = random.Random(91)
        looked = 0
        while looked < 25:
            program, key, bad = Program(made_up.right_program(rng)), made_up.key(rng), rng.choice(KINDS)
            one, other = plain_shapes.built(made(rng, 3)), plain_shapes.built(made(rng, 3))
            try:
                sizes = [len(judge(program, shape, bad=[bad], key=key)) for shape in (one, other, one & other, one - other, one | other)]
            except TooMany:
                continue
            looked += 1
            self.assertEqual(sizes[4], min([size for size in sizes[:2] if size], default=0))
            self.assertEqual(sizes[0], min([size for size in sizes[2:4] if size], default=0))

    def test_least_values_and_all_others(self):
        rng = random.Random(92)
        found = {True: 0, False: 0}
        for _ in range(120):
            program, making, key, bad = Program(made_up.right_program(rng)), made(rng, 5), rng.choice(["", "a", "b"]), bad_of(rng)
            shape = plain_shapes.built(making)
            try:
                verdict = judge(program, shape, bad=bad, key=key)
            except TooMany:
                continue
            values = small_values(key) + [deep_value(rng) for _ in range(20)]
            met = [value for value in values if plain_shapes.holds(making, value) and run(program, value, key=key).meets(bad)]
            found[bool(verdict)] += 1
            if verdict:
                self.assertEqual(met, [], (str(program), making, key, bad))
                continue
            worst = verdict.met[0]
            self.assertEqual(len(verdict), size_of(worst))
            self.assertTrue(plain_shapes.holds(making, worst))
            self.assertTrue(run(program, worst, key=key).meets(bad))
            if met or len(verdict) < 5:
                self.assertGreaterEqual(size_of(met[0]), len(verdict))
            if len(verdict) < 5:
                self.assertEqual(size_of(met[0]), len(verdict), (str(program), making, key, bad))
        self.assertGreater(min(found.values()), 10)

    def test_tables_show_it(self):
        for shape in (Shape.every(), Shape.texts(), Shape.lists(Shape.texts(1))):
            verdict = judge(EXAMPLE, shape, bad=["letter"])
            self.assertTrue(is_table(verdict.table, EXAMPLE, shape, bad=["letter"]))

    def test_errors(self):
        with self.assertRaises(TooMany) as caught:
            judge(MANY, MANY_SHAPE, key="ab")
        self.assertEqual(caught.exception.what, "conducts")
        for thing in NO_FATES:
            with self.assertRaises(BadFate) as error:
                judge(MANY, MANY_SHAPE, key="ab", bad=["fail", thing])
            self.assertEqual(error.exception.at, 1)

    def test_new_and_stable(self):
        shape, bad = Shape.lists(Shape.texts()), ["slip"]
        program = Program("def f(v):\n  for x in v:\n    out += x")
        verdict = judge(program, shape, bad=bad)
        shown = repr((verdict.table, verdict.met))
        one = (verdict.table, verdict.met)
        self.assertFalse(has_twice(one))
        self.assertFalse(shares_list(one, (verdict.table, verdict.met)))
        spoil(one[0])
        spoil(one[1])
        bad.append("fail")
        shape |= Shape.every()
        self.assertEqual(repr((verdict.table, verdict.met)), shown)
        self.assertEqual(len(verdict), 2)
        self.assertFalse(verdict)
        self.assertEqual(repr(shape == Shape.every()), "True")

    def test_defaults_and_names(self):
        self.assertEqual(judge(WALK, Shape.texts(1, 1)).met, judge(WALK, Shape.texts(1, 1), bad=["slip", "endless"], key="").met)
        self.assertTrue(judge(key="a", bad=("fail",), shape=Shape.lists(Shape.every()), program=EXAMPLE))
        self.assertFalse(judge(key="ab", bad=("refuse",), shape=Shape.texts(), program=TWO))


class Survey(unittest.TestCase):
    def test_examples(self):
        self.assertEqual(survey(EXAMPLE, Shape.lists(Shape.every())), {})
        self.assertEqual(survey(EXAMPLE, Shape.never()), {})
        self.assertEqual(survey(QUIET, Shape.every()), {})
        found = survey(EXAMPLE, Shape.every())
        self.assertEqual(list(found), [("fail", 1), ("letter", 2), ("slip", 1)])
        self.assertEqual(found[("fail", 1)], None)
        self.assertEqual(found[("slip", 1)], "")
        self.assertEqual(size_of(found[("letter", 2)]), 3)
        found = survey(TWO, Shape.every(), key="ab")
        self.assertEqual(list(found), [("fail", 1), ("letter", 2), ("refuse", 6), ("slip", 1)])
        self.assertEqual(found[("refuse", 6)], "ab")
        self.assertEqual(found[("fail", 1)], [None])
        self.assertEqual(list(survey(WALK, Shape.texts())), [("endless", 3), ("slip", 1)])

    def test_like_judge_for_each_fate(self):
        rng = random.Random(93)
        looked = many = 0
        while looked < 12:
            program, shape, key = Program(made_up.right_program(rng)), plain_shapes.built(made(rng, 4)), made_up.key(rng)
            expected = {}
            try:
                for kind in sorted(KINDS):
                    for line in range(len(program)):
                        verdict = judge(program, shape, bad=[(kind, line)], key=key)
                        if not verdict:
                            expected[(kind, line)] = verdict.met[0]
            except TooMany:
                many += 1
                with self.assertRaises(TooMany) as caught:
                    survey(program, shape, key=key)
                self.assertEqual(caught.exception.what, "conducts")
                continue
            looked += 1
            found = survey(program, shape, key=key)
            self.assertEqual(found, expected)
            self.assertEqual(list(found), sorted(found))
        self.assertGreater(many, 0)

    def test_fates_of_runs(self):
        rng = random.Random(94)
        looked = 0
        while looked < 25:
            program, making, key = Program(made_up.right_program(rng)), made(rng, 4), rng.choice(["", "a"])
            try:
                found = survey(program, plain_shapes.built(making), key=key)
            except TooMany:
                continue
            looked += 1
            for value in small_values(key) + [deep_value(rng) for _ in range(10)]:
                if plain_shapes.holds(making, value):
                    for fate in run(program, value, key=key).fates:
                        self.assertIn(fate, found)
                        self.assertLessEqual(size_of(found[fate]), size_of(value))
            for fate, value in found.items():
                self.assertIn(fate, run(program, value, key=key).fates)
                self.assertTrue(plain_shapes.holds(making, value))

    def test_new(self):
        shape = Shape.lists(Shape.every())
        one = survey(TWO, shape)
        shown = repr(one)
        self.assertFalse(has_twice(list(one.values())))
        spoil(list(one.values()))
        one.clear()
        self.assertEqual(repr(survey(key="", shape=shape, program=TWO)), shown)

    def test_page(self):
        self.assertEqual(survey_page({}), "")
        self.assertEqual(survey_page({("slip", 1): "ab"}), "  1 slip     'ab'")
        found = {
            ("slip", 1): [None, "a"], ("letter", 12): "ab", ("fail", 2): None, ("refuse", 0): "", ("endless", 29): [["a", []]],
            ("slip", 10): [],
        }
        expected = "\n".join([
            " 29 endless  [['a', []]]", "  2 fail     None", " 12 letter   'ab'", "  0 refuse   ''", "  1 slip     [None, 'a']",
            " 10 slip     []",
        ])
        before = list(found.items())
        self.assertEqual(survey_page(found), expected)
        self.assertEqual(list(found.items()), before)
        self.assertEqual(survey_page(found=dict(before[::-1])), expected)

    def test_page_with_long_signs(self):
        found = {("refusesall", 1): "", ("endless", 1000): None, ("slip", -12): [], ("slip", 12345): "a", ("endless", 100): [""]}
        expected = "\n".join([
            "100 endless  ['']", "1000 endless  None", "  1 refusesall ''", "-12 slip     []", "12345 slip     'a'",
        ])
        self.assertEqual(survey_page(found), expected)

    def test_page_of_deep_values(self):
        self.assertEqual(survey_page({("slip", 3): nested("a", 900)}), "  3 slip     " + "[" * 900 + "'a'" + "]" * 900)

    def test_page_of_surveys(self):
        found = survey(EXAMPLE, Shape.every())
        word = found[("letter", 2)]
        self.assertEqual(survey_page(found), f"  1 fail     None\n  2 letter   '{word}'\n  1 slip     ''")


class Bears(unittest.TestCase):
    def test_functions(self):
        program = Program("def each(w):\n  for x in w:\n    out(x)\ndef calm(u):\n  each([u])\ndef main(v):\n  each(v)")
        texts = Shape.texts()
        self.assertIs(bears(program, texts), False)
        self.assertIs(bears(program, texts, name="main"), False)
        self.assertIs(bears(program, texts, name="each"), False)
        self.assertIs(bears(program, texts, name="calm"), True)
        self.assertIs(bears(program, Shape.every(), name="calm", bad=KINDS), True)
        self.assertIs(bears(program, Shape.every(), name=None, bad=["refuse"]), True)
        self.assertIs(bears(program, Shape.never(), bad=KINDS), True)
        self.assertIs(bears(program, texts, name="each", bad=["fail"]), True)
        self.assertIs(bears(program, Shape.nothing(), name="each", bad=["fail"]), False)

    def test_all_values(self):
        rng = random.Random(95)
        found = {True: 0, False: 0}
        while min(found.values()) < 12:
            program, making, key, bad = Program(made_up.right_program(rng)), made(rng, 4), rng.choice(["", "a"]), bad_of(rng)
            values = [value for value in small_values(key) if plain_shapes.holds(making, value)]
            for name in [None, *program.names()]:
                try:
                    told = bears(program, plain_shapes.built(making), bad=bad, key=key, name=name)
                except TooMany:
                    continue
                met = [given for given in runs_on(program, values, key, name) if given.meets(bad)]
                found[told] += 1
                if told:
                    self.assertEqual(met, [])
                if name in (None, program.main):
                    self.assertIs(told, bool(judge(program, plain_shapes.built(making), bad=bad, key=key)))

    def test_greatest(self):
        texts, lists, every, never = Shape.texts(), Shape.lists(Shape.texts()), Shape.every(), Shape.never()
        one = Shape.texts(1, 1)
        self.assertEqual(greatest(EXAMPLE, [texts, lists, one, every]), [1, 2])
        self.assertEqual(greatest(EXAMPLE, (lists, one, one | lists)), [2])
        self.assertEqual(greatest(EXAMPLE, [never, lists, never]), [1])
        self.assertEqual(greatest(EXAMPLE, [never, never]), [0])
        self.assertEqual(greatest(EXAMPLE, [lists, ~(~lists), lists]), [0])
        self.assertEqual(greatest(EXAMPLE, [one, lists, Shape.texts(1, 1), lists | never]), [0, 1])
        self.assertEqual(greatest(EXAMPLE, [texts]), [])
        self.assertEqual(greatest(EXAMPLE, []), [])
        self.assertEqual(greatest(EXAMPLE, [every, texts, lists], bad=["refuse"]), [0])
        self.assertEqual(greatest(EXAMPLE, [lists, texts, every], bad=["refuse"]), [2])
        self.assertEqual(greatest(EXAMPLE, [lists, texts, every], bad=["fail"]), [0, 1])
        self.assertEqual(greatest(EXAMPLE, [lists, Shape.nothing() | lists, Shape.nothing()], bad=["slip"]), [1])

    def test_greatest_of_one_function(self):
        program = Program("def each(w):\n  for x in w:\n    out(x)\ndef main(v):\n  if text v and key in v:\n    refuse")
        shapes = [Shape.texts(), Shape.every(), Shape.lists(Shape.texts())]
        self.assertEqual(greatest(program, shapes, name="each"), [2])
        self.assertEqual(greatest(program, shapes, bad=["refuse"], key="ab"), [2])
        self.assertEqual(greatest(program, shapes, bad=["refuse"], key="ab", name="each"), [1])
        self.assertEqual(greatest(name="main", key="ab", bad=["fail"], shapes=shapes, program=program), [1])

    def test_greatest_is_what_it_says(self):
        rng = random.Random(96)
        looked = 0
        while looked < 25:
            program, key, bad = Program(made_up.right_program(rng)), made_up.key(rng), bad_of(rng)
            shapes = [plain_shapes.built(made(rng, 3)) for _ in range(4)]
            name = rng.choice([None, *program.names()])
            try:
                borne = [at for at in range(4) if bears(program, shapes[at], bad=bad, key=key, name=name)]
            except TooMany:
                with self.assertRaises(TooMany):
                    greatest(program, shapes, bad=bad, key=key, name=name)
                continue
            looked += 1
            expected = []
            for at in borne:
                above = [other for other in borne if shapes[at].within(shapes[other])]
                if all(shapes[other] == shapes[at] for other in above) and min(above) == at:
                    expected.append(at)
            self.assertEqual(greatest(program, shapes, bad=bad, key=key, name=name), expected)

    def test_errors_in_order(self):
        for name in ("main", "out", "y", "", 0, True, ["f"], ("f",), [], nested("f", 13)):
            for shapes in ([MANY_SHAPE], [], [Shape.never(), MANY_SHAPE]):
                with self.assertRaises(NoFunction) as caught:
                    greatest(MANY, shapes, bad=["none"], key="ab", name=name)
                self.assertEqual(caught.exception.name, name)
            with self.assertRaises(NoFunction) as caught:
                bears(MANY, MANY_SHAPE, bad=["none"], key="ab", name=name)
            self.assertEqual(caught.exception.name, name)
        for thing in NO_FATES:
            for shapes in ([MANY_SHAPE], [], [Shape.never()]):
                with self.assertRaises(BadFate) as error:
                    greatest(MANY, shapes, bad=["slip", thing], key="ab", name="f")
                self.assertEqual(error.exception.at, 1)
            with self.assertRaises(BadFate):
                bears(MANY, MANY_SHAPE, bad=[thing], key="ab")
        with self.assertRaises(TooMany) as many:
            bears(MANY, MANY_SHAPE, key="ab")
        self.assertEqual(many.exception.what, "conducts")
        with self.assertRaises(TooMany):
            greatest(MANY, [Shape.nothing(), MANY_SHAPE], key="ab")

    def test_shapes_stay(self):
        shapes = [Shape.texts(1, 1), Shape.lists(Shape.texts())]
        greatest(EXAMPLE, shapes)
        self.assertEqual(len(shapes), 2)
        self.assertEqual(shapes[0], Shape.texts(1, 1))


if __name__ == "__main__":
    unittest.main()

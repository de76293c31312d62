"""The promise of the document, over several programs, keys and shapes, and that no answer takes long."""

import random
import time
import unittest

from tests import made_up
from tests.brute import are_apart, deep_value, is_excused, small_values
from tests.samples import nested
from tests.test_twins import parts
from textorlist.comparing import compare
from textorlist.conducts import table, table_of_pairs
from textorlist.errors import TooMany
from textorlist.judging import judge, survey
from textorlist.looker import is_table, is_table_of_pairs
from textorlist.mends import least_mends
from textorlist.programs import Program
from textorlist.runs import run
from textorlist.shapes import Shape
from textorlist.twins import Twins
from textorlist.values import size_of

TEXTS = [
    "def main(v):\n  for x in v:\n    out(x)",
    "def flat(v):\n  for x in v:\n    if list x:\n      flat(x)\n    else:\n      out(x)",
    "def flat(v):\n  for x in many(v):\n    if list x:\n      flat(x)\n    else:\n      out(x)",
    "def each(w):\n  for x in w:\n    out(x)\ndef main(v):\n  each(v)",
    "def main(v):\n  if key in v:\n    log(v)\n  else:\n    out += many(v)",
    "def main(v):\n  if nothing v:\n    return\n  for x in some(v)[1:]:\n    if key = x:\n      break\n    t.join([x])",
    "def walk(v):\n  for x in v:\n    walk(x)",
    "def g(w):\n  out = out + w\ndef main(v):\n  for x in v:\n    if text x or list x and x:\n      g([x])\n      g(many(x))",
]
TEXT, LIST = Shape.texts(), Shape.lists(Shape.texts())
SHAPES = [Shape.every(), TEXT, LIST, TEXT | LIST, Shape.nested(TEXT), Shape.nothing() | Shape.texts(1), ~Shape.nothing()]
KEYS = ["", "a", "ab", "aab"]


def large_values(rng):
    """Values that are nested deep or large."""
    return [deep_value(rng) for _ in range(20)] + [
        "ab" * 30, nested("ab", 4), nested([], 3), ["a", ["b", ["c", ["ab"]]]], ["ab"] * 50, [nested("a", 3)] * 5, [[None], ["", "aab"]],
    ]


def asked(function, *arguments, **more):
    """What a function returns, or None if there would be too many conducts."""
    try:
        return function(*arguments, **more)
    except TooMany:
        return None


class Promise(unittest.TestCase):
    def cases(self):
        for at, text in enumerate(TEXTS):
            for number, shape in enumerate(SHAPES):
                yield Program(text), shape, KEYS[(at + number) % 4]

    def test_judge(self):
        rng = random.Random(110)
        looked = 0
        for program, shape, key in self.cases():
            for bad in (["slip", "endless"], ["letter"], ["fail"]):
                verdict = asked(judge, program, shape, bad=bad, key=key)
                if verdict is None:
                    continue
                looked += 1
                values = [value for value in small_values(key, 3) + large_values(rng) if value in shape]
                met = [size_of(value) for value in values if run(program, value, key=key).meets(bad)]
                if verdict:
                    self.assertEqual(met, [])
                    self.assertTrue(is_table(verdict.table, program, shape, bad=bad, key=key))
                else:
                    self.assertIn(verdict.met[0], shape)
                    self.assertTrue(run(program, verdict.met[0], key=key).meets(bad))
                    self.assertLessEqual(len(verdict), min(met, default=len(verdict)))
        self.assertGreater(looked, 100)

    def test_twins(self):
        looked = 0
        for text in TEXTS:
            for key in KEYS:
                program = Program(text)
                for name in program.names():
                    told = asked(Twins, program, key=key, name=name)
                    if told is None:
                        continue
                    looked += 1
                    words = [value for value in small_values(key, 5 if len(key) < 2 else 4) if isinstance(value, str)]
                    parting = [word for word in words + ["abababa", "z" * 90] if parts(program, word, key, name)]
                    self.assertEqual(len(told.parting), min(len(parting), 1))
                    self.assertEqual([len(word) for word in told.parting], [len(word) for word in parting[:1]])
        self.assertGreater(looked, 20)

    def test_compare(self):
        rng = random.Random(111)
        looked = 0
        for at, text in enumerate(TEXTS):
            for number, shape in enumerate(SHAPES[1:]):
                one, other, key = Program(text), Program(TEXTS[(at + number) % len(TEXTS)]), KEYS[at % 2]
                told = asked(compare, one, other, shape, key=key, excused=number % 2 == 0)
                if told is None:
                    continue
                looked += 1
                apart = []
                for value in [value for value in small_values(key, 3) + large_values(rng) if value in shape]:
                    first, second = run(one, value, key=key), run(other, value, key=key)
                    if not (number % 2 == 0 and is_excused(first)) and are_apart(first, second):
                        apart.append(size_of(value))
                if told:
                    self.assertEqual(apart, [])
                    self.assertTrue(is_table_of_pairs(told.table, one, other, shape, key=key, excused=number % 2 == 0))
                else:
                    self.assertLessEqual(size_of(told.apart[0]), min(apart, default=99))
        self.assertGreater(looked, 20)

    def test_mends(self):
        rng = random.Random(112)
        looked = 0
        for program, shape, key in self.cases():
            told = asked(least_mends, program, shape, key=key)
            if told is None:
                continue
            looked += 1
            for mend in told.sets:
                mended = program.marked(mend)
                for value in [value for value in small_values(key, 3) + large_values(rng) if value in shape]:
                    first, second = run(program, value, key=key), run(mended, value, key=key)
                    self.assertFalse(is_excused(second))
                    self.assertTrue(is_excused(first) or not are_apart(first, second))
            for mend in told.bad:
                self.assertTrue(not told.sets or len(mend) < len(told.sets[0]))
                value, place = told.bad[mend]
                first, second = run(program, value, key=key), run(program.marked(mend), value, key=key)
                self.assertTrue(is_excused(second) if place is None else not is_excused(first) and are_apart(first, second))
        self.assertGreater(looked, 20)


LONG = "\n".join([
    "def f(w):", "  if len w > 3 and not nothing w:", "    for x in w:", "      if key = x:", "        break", "      out(x)",
    "  else:", "    if list w and w:", "      return", "  f(w[0])",
    "def g(u):", "  for y in many(u):", "    for z in some(y)[1:]:", "      if text z or z:", "        skip", "      g(z)",
    "    f([y])",
    "def main(v):", "  if key in v:", "    refuse", "  for x in v:", "    g(x)", "    if nothing x or text x:", "      break",
    "    else:", "      main(x)", "    if x:", "      return", "    main(x)",
])
LOOPS = "def f(v):\n  if v:\n" + "\n".join("    for x in [v]:\n      f(x)" for _ in range(6)) + "\n    for x in v:\n      f(x)\n      f(x)\n  out(v)"


class Speed(unittest.TestCase):
    """Each answer may take a few seconds; these are far below that, unless something grows without bounds."""

    def test_long_programs(self):
        begin = time.perf_counter()
        for text in (LONG, LOOPS, *TEXTS):
            program = Program(text)
            for shape in (Shape.every(), Shape.nested(Shape.lists(Shape.texts(1, 3)) | Shape.lists(Shape.nothing()))):
                for key in ("aab", "abc", "aaa"):
                    for function in (table, judge, survey):
                        asked(function, program, shape, key=key)
                    asked(table_of_pairs, program, program, shape, key=key)
                    asked(is_table, (), program, shape, key=key)
                    asked(Twins, program, key=key)
        self.assertLess(time.perf_counter() - begin, 60)

    def test_mends(self):
        for shape in (TEXT, TEXT | LIST, Shape.nested(TEXT)):
            begin = time.perf_counter()
            asked(least_mends, Program("def main(v):\n  for x in v:\n    for y in many(x):\n      log(y)\n  out(v[0])"), shape, key="aab")
            self.assertLess(time.perf_counter() - begin, 10)


if __name__ == "__main__":
    unittest.main()

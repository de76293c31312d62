"""Stage 9: whether a function treats a text and the list of this text alone alike."""

import random
import unittest
from collections import Counter

from tests import made_up
from tests.brute import values_up_to
from tests.plain_conducts import letters_for
from tests.samples import nested
from textorlist.conducts import table_of_pairs
from textorlist.errors import NoFunction, TooMany
from textorlist.programs import Program
from textorlist.runs import run
from textorlist.shapes import Shape
from textorlist.twins import Twins

EACH = Program("def each(v):\n  for x in v:\n    out(x)")
MANY = Program("def f(w):\n  for x in w[:1]:\n    log.join(x)\n  if key = w:\n    return\n  if len w = 3:\n    f(w[0])")


def moved(sign):
    """What a sign of the run on the list is for the text."""
    taker, manner, place, wraps = sign
    return (taker, manner, place[1:], wraps) if place else (taker, manner, (), wraps + 1)


def counts(program, text, key, name):
    one, other = run(program, text, key=key, name=name), run(program, [text], key=key, name=name)
    rows = [Counter(one.handed), Counter(moved(sign) for sign in other.handed)]
    return one.way, other.way, [{sign: min(2, many) for sign, many in row.items()} for row in rows]


def parts(program, text, key, name):
    way, beside, (one, other) = counts(program, text, key, name)
    return way != beside or (way == "end" and one != other)


class Parting(unittest.TestCase):
    def check(self, text, parting, key="", name=None):
        """parting is None, or a list of all least texts that part the twins."""
        told = Twins(Program(text), key=key, name=name)
        self.assertIs(bool(told), parting is None, text)
        self.assertIsInstance(told.parting, tuple)
        if parting is None:
            self.assertEqual(told.parting, ())
        else:
            self.assertEqual(len(told.parting), 1)
            self.assertIn(told.parting[0], parting)

    def test_examples(self):
        self.check("def f(v):\n  for x in v:\n    out(x)", [""])
        self.check("def f(v):\n  for x in many(v):\n    out(x)", None)
        self.check("def f(v):\n  for x in some(v):\n    out(x)", None)
        self.check("def f(v):\n  for x in [v]:\n    out(x)", ["a"[:0]])
        self.check("def f(v):\n  return", None)
        self.check("def f(v):\n  refuse", None)
        self.check("def f(v):\n  out(v)", [""])
        self.check("def f(v):\n  out(many(v))", None)
        self.check("def f(v):\n  out(many(v)[0])", None)
        self.check("def f(v):\n  out(v[0])", [""])
        self.check("def f(v):\n  if v:\n    out(v[0])", [""])

    def test_wrapping_ahead_of_all_else(self):
        for deeds in ("out(x)", "for y in x:\n      out(y)\n      log.join([y])", "if key in x:\n      refuse\n    t += x",
                      "if len x > 2:\n      g(x)"):
            for e in ("many(v)", "some(v)"):
                early = "def g(u):\n  if u:\n    g(u[0])\n" if "g(" in deeds else ""
                for key in ("", "ab"):
                    self.check(f"{early}def f(v):\n  for x in {e}:\n    {deeds}", None, key=key)

    def test_ways(self):
        self.check("def f(v):\n  if text v:\n    refuse", [""])
        self.check("def f(v):\n  if list v:\n    refuse", [""])
        self.check("def f(v):\n  if key = v:\n    refuse", ["ab"], key="ab")
        self.check("def f(v):\n  if text v:\n    if key in v:\n      refuse", ["ab"], key="ab")
        self.check("def f(v):\n  if len v = 2:\n    refuse", ["aa", "ab", "ba", "bb"])
        self.check("def f(v):\n  if len v != 2:\n    refuse", ["aa", "ab", "ba", "bb"])
        self.check("def f(v):\n  if text v:\n    t = t + v\n  else:\n    refuse", [""])
        self.check("def f(v):\n  t = t + v", [""])
        self.check("def f(v):\n  for x in many(v):\n    refuse\n  out(v)", None)
        self.check("def f(v):\n  out(v)\n  refuse", None)
        self.check("def f(v):\n  for x in [v]:\n    out(v)".replace("out(v)", "f(x)"), None)

    def test_places_and_wraps(self):
        self.check("def f(v):\n  out([v])\n  for x in many(v):\n    out(x)", [""])
        self.check("def f(v):\n  if text v:\n    out([v])\n  else:\n    out(v)", None)
        self.check("def f(v):\n  if text v:\n    out(v)\n  else:\n    out(v[0])", None)
        self.check("def f(v):\n  if text v:\n    out(v)\n    out([v])\n  else:\n    out(v)\n    out(v[0])", None)
        self.check("def f(v):\n  if text v:\n    out(v)\n  else:\n    log(v[0])", [""])
        self.check("def f(v):\n  if text v:\n    out.join(many(v))\n  else:\n    out(v[0])", [""])
        self.check("def f(v):\n  if text v:\n    for x in v:\n      out(x)\n  else:\n    for y in v:\n      for z in y:\n        out(z)", None)

    def test_once_and_more_than_once(self):
        twice = "def f(v):\n  if text v:\n    out(v)\n    {}\n  else:\n    {}"
        self.check(twice.format("out(v)", "out(v[0])"), [""])
        self.check(twice.format("out(v)\n    out(v)", "out(v[0])\n    out(v[0])"), None)
        self.check(twice.format("return", "out(v[0])"), None)
        self.check(twice.format("return", "out(v[0])\n    out(v[-1])"), [""])
        wraps = "def f(v):\n  if text v:\n    out([v])\n    out([v])\n  else:\n    out(v)\n    {}"
        self.check(wraps.format("for x in v:\n      out([x])"), None)
        self.check(wraps.format("out(v)\n    for x in v:\n      out([x])"), None)
        self.check(wraps.format("return"), [""])

    def test_other_fates_and_order_do_not_matter(self):
        self.check("def f(v):\n  if text v:\n    if len v = 2:\n      return\n    if key in v:\n      return", None, key="a")
        self.check("def f(v):\n  if text v:\n    out(v)\n    log(v)\n  else:\n    log(v[0])\n    out(v[0])", None)

    def test_keys_in_wraps(self):
        self.check("def g(w):\n  if key in w:\n    refuse\ndef f(v):\n  g([v])", ["ab"], key="ab")
        self.check("def g(w):\n  if key in w:\n    out(w)\n  log(w)\ndef f(v):\n  g(many(v))", None, key="ab")
        self.check("def g(w):\n  if list w and key in w:\n    out(w)\ndef f(v):\n  for x in many(v):\n    g(x)\n  g(v)", ["ab"], key="ab")

    def test_longer_texts(self):
        self.check("def f(v):\n  if text v:\n    if len v = 3:\n      refuse",
                   [text for text in values_up_to("ab", 4) if isinstance(text, str) and len(text) == 3])
        self.check("def f(v):\n  if text v and len v > 3:\n    refuse",
                   [text for text in values_up_to("ab", 5) if isinstance(text, str) and len(text) == 4])

    def test_functions(self):
        text = "def each(w):\n  for x in w:\n    out(x)\ndef calm(u):\n  for x in many(u):\n    each([x])\ndef main(v):\n  refuse"
        self.check(text, [""], name="each")
        self.check(text, None, name="calm")
        self.check(text, None, name="main")
        self.check(text, None)

    def test_all_texts(self):
        rng = random.Random(97)
        found = {True: 0, False: 0}
        while min(found.values()) < 18:
            program, key = Program(made_up.right_program(rng)), made_up.key(rng)
            for name in [None, *program.names()]:
                try:
                    told = Twins(program, key=key, name=name)
                except TooMany as error:
                    self.assertEqual(error.what, "conducts")
                    with self.assertRaises(TooMany):
                        table_of_pairs(program, program, Shape.texts(), key=key)
                    break
                found[bool(told)] += 1
                texts = [text for text in values_up_to(letters_for(key), 5 if len(key) < 2 else 4) if isinstance(text, str)]
                parting = [text for text in texts + ["abca", "zzzzz", "aabaab"] if parts(program, text, key, name)]
                if told:
                    self.assertEqual(told.parting, ())
                    self.assertEqual(parting, [], (str(program), key, name))
                else:
                    self.assertEqual(len(told.parting[0]), len(parting[0]), (str(program), key, name))
                    self.assertIn(told.parting[0], parting)

    def test_errors_in_order(self):
        shape = Shape.texts()
        key = "abc"
        with self.assertRaises(TooMany) as caught:
            table_of_pairs(MANY, MANY, shape, key=key)
        self.assertEqual(caught.exception.what, "conducts")
        with self.assertRaises(TooMany) as caught:
            Twins(MANY, key=key)
        self.assertEqual(caught.exception.what, "conducts")
        for name in ("main", "out", "x", "", 0, True, ["f"], ("f",), nested("f", 13), {}):
            with self.assertRaises(NoFunction) as error:
                Twins(MANY, key=key, name=name)
            self.assertEqual(error.exception.name, name)


class Counted(unittest.TestCase):
    def test_places(self):
        told = Twins(EACH)
        self.assertEqual(told.counted("ab"), (
            {("out", "whole", (0,), 0): 1, ("out", "whole", (1,), 0): 1}, {("out", "whole", (), 0): 1},
        ))
        self.assertEqual(told.counted("a"), ({("out", "whole", (), 0): 1}, {("out", "whole", (), 0): 1}))
        self.assertEqual(told.counted(""), ({}, {("out", "whole", (), 0): 1}))
        self.assertIsInstance(told.counted("ab"), tuple)

    def test_wraps(self):
        told = Twins(Program("def f(v):\n  out(v)\n  for x in v:\n    log.join([x])\n    out([x])\n    for y in x:\n      out([y])"))
        self.assertEqual(told.counted("ab"), (
            {("out", "whole", (), 0): 1, ("log", "joined", (0,), 0): 1, ("out", "whole", (0,), 1): 2, ("log", "joined", (1,), 0): 1,
             ("out", "whole", (1,), 1): 2},
            {("out", "whole", (), 1): 2, ("log", "joined", (), 0): 1, ("out", "whole", (0,), 1): 1, ("out", "whole", (1,), 1): 1},
        ))
        self.assertEqual(told.counted("a")[1], {("out", "whole", (), 1): 2, ("log", "joined", (), 0): 1})
        told = Twins(Program("def f(v):\n  out([v])\n  for x in many(v):\n    out([x])"))
        self.assertEqual(told.counted("ab"), (
            {("out", "whole", (), 1): 2}, {("out", "whole", (), 2): 1, ("out", "whole", (), 1): 1},
        ))

    def test_whatever_the_ways(self):
        told = Twins(Program("def f(v):\n  out(v)\n  for x in v:\n    out(x)\n    if key = x:\n      refuse\n  f(v[0])"), key="b")
        self.assertEqual(told.counted("aba"), (
            {("out", "whole", (), 0): 1, ("out", "whole", (0,), 0): 1, ("out", "whole", (1,), 0): 1},
            {("out", "whole", (), 1): 1, ("out", "whole", (), 0): 2, ("out", "whole", (0,), 0): 1, ("out", "whole", (1,), 0): 1},
        ))
        told = Twins(Program("def f(v):\n  out(v)\n  t = t + v\n  out(v)"))
        self.assertEqual(told.counted("ab"), (
            {("out", "whole", (), 0): 1}, {("out", "whole", (), 1): 2, ("t", "whole", (), 0): 1},
        ))

    def test_second_opinion(self):
        rng = random.Random(98)
        looked = 0
        while looked < 40:
            program, key = Program(made_up.right_program(rng)), made_up.key(rng)
            name = rng.choice([None, *program.names()])
            try:
                told = Twins(program, key=key, name=name)
            except TooMany:
                continue
            looked += 1
            for text in ("", "a", "b", "ab", "aab", "abcab", "zz"):
                self.assertEqual(list(told.counted(text)), counts(program, text, key, name)[2])

    def test_new(self):
        told = Twins(key="a", name="each", program=EACH)
        one = told.counted(text="ab")
        one[0].clear()
        one[1][("x",)] = 3
        self.assertEqual(told.counted("ab")[0], {("out", "whole", (0,), 0): 1, ("out", "whole", (1,), 0): 1})
        self.assertEqual(told.counted("ab")[1], {("out", "whole", (), 0): 1})


if __name__ == "__main__":
    unittest.main()

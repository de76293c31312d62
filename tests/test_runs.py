"""Runs: what lines do, slips, failing, endless runs, places and wraps, fates, traces."""

import copy
import random
import unittest

from textorlist.entries import Entries
from textorlist.errors import BadFate, BadValue, NoFunction, TooMany
from textorlist.programs import Program
from textorlist.runs import Run, first_parting, run, trace
from textorlist.values import wrapped
from tests import made_up
from tests.plain_runs import PlainRun, TooLong
from tests.samples import LARGE_VALUES, NO_VALUES, has_twice, nested, shares_list, small_values, spoil

FLAT = "def flat(v):\n  for x in v:\n    if list x:\n      flat(x)\n    else:\n      out(x)"
VALUES = small_values() + LARGE_VALUES


def done(text, value, key="", name=None):
    """The run of a program that stands as a text."""
    return run(Program(text), value, key=key, name=name)


def one_line(line, value, key=""):
    """The run of a function with one line; the line is the line 4, and `g` a function that hands over."""
    return done(f"def g(w):\n  got(w)\n  if list w:\n    return\ndef f(v):\n  {line}", value, key)


def handed(text, value, key=""):
    """What is handed over, as (taker, place, wraps)."""
    return [(taker, place, wraps) for taker, _, place, wraps in done(text, value, key).handed]


class Case(unittest.TestCase):
    def check(self, given, way, line, fates, parts):
        """A run against its way, its line, its fates, and the (place, wraps) that are handed over."""
        self.assertEqual((given.way, given.line, given.fates), (way, line, fates))
        self.assertEqual([(place, wraps) for _, _, place, wraps in given.handed], parts)
        self.assertIs(bool(given), way == "end")


class Examples(Case):
    def test_flat(self):
        self.check(done(FLAT, ["ab", ["c"]]), "end", None, [], [((0,), 0), ((1, 0), 0)])
        self.check(done(FLAT, "ab"), "end", None, [("slip", 1), ("letter", 5)], [((0,), 0), ((1,), 0)])
        self.check(done(FLAT, ""), "end", None, [("slip", 1)], [])
        self.check(done(FLAT, "a"), "end", None, [], [((), 0)])
        other = FLAT.replace("list x", "list x or text x")
        self.check(done(other, "a"), "endless", 3, [("endless", 3)], [])
        self.check(done(other, "ab"), "endless", 3, [("slip", 1), ("endless", 3)], [])
        self.check(done(other, [["a"]]), "endless", 3, [("endless", 3)], [])
        self.check(done(other, [["", None]]), "end", None, [("slip", 1)], [((0, 1), 0)])

    def test_nothing(self):
        self.check(done(FLAT, None), "fail", 1, [("fail", 1)], [])


class Loops(Case):
    TAKEN = [
        ("", slice(None)), ("[:1]", slice(1)), ("[1:]", slice(1, None)),
    ]

    def test_texts(self):
        for tail, taken in self.TAKEN:
            text = f"def f(v):\n  for x in v{tail}:\n    out(x)"
            for value in ("", "a", "ab", "abc", "zzzz"):
                places = [(at,) for at in range(len(value))][taken] if len(value) > 1 else [()][taken] * len(value)
                slips = len(value) > 1 if tail == "[1:]" else len(value) != 1
                fates = [("slip", 1)] * slips + [("letter", 2)] * (len(value) > 1)
                self.check(done(text, value), "end", None, fates, [(place, 0) for place in places])

    def test_lists(self):
        for tail, taken in self.TAKEN:
            text = f"def f(v):\n  for x in v{tail}:\n    out(x)"
            for value in ([], ["ab"], [None, "ab", []], [["a"], "b", "c", ""]):
                places = [((at,), 0) for at in range(len(value))][taken]
                self.check(done(text, value), "end", None, [], places)
            self.check(done(text, None), "fail", 1, [("fail", 1)], [])

    def test_forms(self):
        for tail, taken in self.TAKEN:
            for value in (None, "", "a", "ab", [], ["ab", None, []]):
                wrap = f"def f(v):\n  for x in [v]{tail}:\n    out(x)"
                self.check(done(wrap, value), "end", None, [], [((), 0)][taken])
                for form in ("many", "some"):
                    text = f"def f(v):\n  for x in {form}(v){tail}:\n    out(x)"
                    if value is None and form == "many":
                        self.check(done(text, value), "fail", 1, [("fail", 1)], [])
                    elif isinstance(value, str):
                        self.check(done(text, value), "end", None, [], [((), 0)][taken])
                    else:
                        places = [((at,), 0) for at in range(len(value or []))]
                        self.check(done(text, value), "end", None, [], places[taken])

    def test_skip_and_break(self):
        text = "def f(v):\n  for x in v:\n    for y in x:\n      if key = y:\n        {cut}\n      out(y)\n    log(x)\n  t(v)"
        value = [["b", "a", "c"], ["a"], ["c"]]
        self.assertEqual(handed(text.format(cut="skip"), value, "a"), [
            ("out", (0, 0), 0), ("out", (0, 2), 0), ("log", (0,), 0), ("log", (1,), 0), ("out", (2, 0), 0), ("log", (2,), 0), ("t", (), 0),
        ])
        self.assertEqual(handed(text.format(cut="break"), value, "a"), [
            ("out", (0, 0), 0), ("log", (0,), 0), ("log", (1,), 0), ("out", (2, 0), 0), ("log", (2,), 0), ("t", (), 0),
        ])
        self.assertEqual(handed(text.format(cut="return"), value, "a"), [("out", (0, 0), 0)])
        given = done(text.format(cut="refuse"), value, "a")
        self.check(given, "refuse", 4, [("refuse", 4)], [((0, 0), 0)])

    def test_skip_in_an_else_and_behind(self):
        text = "def f(v):\n  for x in v:\n    if text x:\n      out(x)\n    else:\n      skip\n      out(x)\n    log(x)"
        self.assertEqual(handed(text, ["a", None, "b"]), [("out", (0,), 0), ("log", (0,), 0), ("out", (2,), 0), ("log", (2,), 0)])

    def test_variable_of_the_same_name(self):
        text = "def f(v):\n  for v in v:\n    for v in v:\n      out(v)\n    log(v)\n  t(v)"
        self.assertEqual(handed(text, [["a"], ["b"]]), [
            ("out", (0, 0), 0), ("log", (0,), 0), ("out", (1, 0), 0), ("log", (1,), 0), ("t", (), 0),
        ])

    def test_lines_behind_loops_in_blocks(self):
        text = "def f(v):\n  if list v:\n    for x in v:\n      out(x)\n  else:\n    log(v)\n  t(v)"
        self.assertEqual(handed(text, ["a"]), [("out", (0,), 0), ("t", (), 0)])
        self.assertEqual(handed(text, []), [("t", (), 0)])
        self.assertEqual(handed(text, "a"), [("log", (), 0), ("t", (), 0)])


class Choices(Case):
    def test_else(self):
        text = "def f(v):\n  if text v:\n    if v:\n      out(v)\n    else:\n      log(v)\n  else:\n    if list v:\n      t(v)\n  z(v)"
        self.assertEqual(handed(text, "a"), [("out", (), 0), ("z", (), 0)])
        self.assertEqual(handed(text, ""), [("log", (), 0), ("z", (), 0)])
        self.assertEqual(handed(text, []), [("t", (), 0), ("z", (), 0)])
        self.assertEqual(handed(text, None), [("z", (), 0)])

    def test_else_of_the_inner_or_the_outer_if(self):
        inner = "def f(v):\n  if text v:\n    if v:\n      out(v)\n    else:\n      log(v)"
        outer = "def f(v):\n  if text v:\n    if v:\n      out(v)\n  else:\n    log(v)"
        self.assertEqual([handed(inner, value) for value in ("a", "", None)], [[("out", (), 0)], [("log", (), 0)], []])
        self.assertEqual([handed(outer, value) for value in ("a", "", None)], [[("out", (), 0)], [], [("log", (), 0)]])

    def test_return_and_refuse(self):
        text = "def g(v):\n  if v:\n    return\n  log(v)\ndef f(v):\n  g(v)\n  if nothing v:\n    refuse\n  out(v)\n  return\n  out(v)"
        self.check(done(text, "a"), "end", None, [], [((), 0)])
        self.check(done(text, ""), "end", None, [], [((), 0), ((), 0)])
        self.check(done(text, None), "refuse", 7, [("refuse", 7)], [((), 0)])

    def test_refuse_in_a_called_function_ends_all(self):
        text = "def g(v):\n  for x in v:\n    refuse\ndef f(v):\n  out(v)\n  g(v)\n  out(v)"
        self.check(done(text, ["a", "b"]), "refuse", 2, [("refuse", 2)], [((), 0)])
        self.check(done(text, []), "end", None, [], [((), 0), ((), 0)])


class Calls(Case):
    VALUES = [None, "", "a", "ab", [], ["ab"], ["ab", None], [[]], [["ab"]]]

    def test_the_thing_itself(self):
        for value in self.VALUES:
            for line in ("{0}(v)", "{0}([v])", "{0}(many(v))"):
                wraps = int(line == "{0}([v])" or (line == "{0}(many(v))" and isinstance(value, str)))
                self.check(one_line(line.format("out"), value), "end", None, [], [((), wraps)])
                self.check(one_line(line.format("g"), value), "end", None, [], [((), wraps)])

    def test_first_and_last(self):
        for value in self.VALUES:
            for at, items in (("0", slice(1)), ("-1", slice(-1, None))):
                for form in ("v", "[v]", "many(v)", "some(v)"):
                    wrap = form == "[v]" or (form != "v" and isinstance(value, str))
                    places = [()] if wrap or value == "a" else [(k,) for k in range(len(value or []))]
                    slips = [("slip", 5)] if form == "v" and isinstance(value, str) and len(value) != 1 else []
                    for name, line in (("out", 5), ("g", 1)):
                        given = one_line(f"{name}({form}[{at}])", value)
                        letters = [("letter", line)] if form == "v" and value == "ab" else []
                        if places:
                            self.check(given, "end", None, slips + letters, [(place, 0) for place in places[items]])
                        else:
                            self.check(given, "fail", 5, slips + [("fail", 5)], [])

    def test_star(self):
        for value in self.VALUES:
            for form in ("v", "[v]", "many(v)", "some(v)"):
                wrap = form == "[v]" or (form != "v" and isinstance(value, str))
                places = [()] if wrap or value == "a" else [(k,) for k in range(len(value or []))]
                slips = [("slip", 5)] if form == "v" and isinstance(value, str) and len(value) != 1 else []
                letters = [("letter", 5)] if form == "v" and value == "ab" else []
                if value is None and form in ("v", "many(v)"):
                    self.check(one_line(f"out(*{form})", value), "fail", 5, [("fail", 5)], [])
                else:
                    self.check(one_line(f"out(*{form})", value), "end", None, slips + letters, [(place, 0) for place in places])
                if len(places) == 1:
                    self.check(one_line(f"g(*{form})", value), "end", None, slips, [(places[0], 0)])
                else:
                    self.check(one_line(f"g(*{form})", value), "fail", 5, slips + [("fail", 5)], [])

    def test_what_comes_behind_a_call(self):
        text = "def g(w):\n  for x in w:\n    log(x)\n    return\ndef f(v):\n  for x in v:\n    g(x)\n    out(x)\n  g(v)\n  out(v)"
        self.assertEqual(handed(text, [["a", "b"], []]), [
            ("log", (0, 0), 0), ("out", (0,), 0), ("out", (1,), 0), ("log", (0,), 0), ("out", (), 0),
        ])

    def test_calls_of_itself(self):
        text = "def f(v):\n  out(v)\n  if list v and v:\n    f(v[0])\n    f(v[-1])"
        self.assertEqual(handed(text, [["a"], "b"]), [
            ("out", (), 0), ("out", (0,), 0), ("out", (0, 0), 0), ("out", (0, 0), 0), ("out", (1,), 0),
        ])

    def test_other_functions(self):
        text = "def a(v):\n  out(v)\ndef b(w):\n  a(w)\n  a([w])\ndef c(x):\n  b([x])\n  log(x)"
        program = Program(text)
        for name, parts in [("a", [0]), ("b", [0, 1]), ("c", [1, 2, 0]), (None, [1, 2, 0])]:
            self.assertEqual([wraps for _, _, _, wraps in run(program, "ab", name=name).handed], parts)
        self.assertEqual(run(program, "ab", name="c").entries("out").listed(), [["ab"], [["ab"]]])


class Gifts(Case):
    VALUES = [None, "", "a", "ab", [], ["ab", None], [["a"]], ["a", "bc"]]

    def test_plus_and_join(self):
        no_texts = (["ab", None], [["a"]])
        for line, manner, failing in (("out += v", "whole", (None,)), ("out.join(v)", "joined", (None, *no_texts))):
            for value in self.VALUES:
                given = one_line(line, value)
                places = [()] if value == "a" else [(at,) for at in range(len(value or []))]
                if value in failing:
                    self.check(given, "fail", 5, [("fail", 5)], [])
                else:
                    slips = [("slip", 5)] * (value in ("", "ab")) + [("letter", 5)] * (value == "ab")
                    self.check(given, "end", None, slips, [(place, 0) for place in places])
                self.assertTrue(all(gift[1] == manner for gift in given.handed))

    def test_sum(self):
        for value in self.VALUES:
            given = one_line("out = out + v", value)
            if isinstance(value, str):
                self.check(given, "fail", 5, [("slip", 5), ("fail", 5)], [])
            elif value is None:
                self.check(given, "fail", 5, [("fail", 5)], [])
            else:
                self.check(given, "end", None, [], [((at,), 0) for at in range(len(value))])
            self.assertTrue(all(manner == "whole" for _, manner, _, _ in given.handed))

    def test_other_forms(self):
        for line in ("out += {}", "out = out + {}", "out.join({})"):
            for value in ("", "a", "ab"):
                for form in ("[v]", "many(v)", "some(v)"):
                    self.check(one_line(line.format(form), value), "end", None, [], [((), 0)])
            self.check(one_line(line.format("some(v)"), None), "end", None, [], [])
            self.check(one_line(line.format("many(v)"), None), "fail", 5, [("fail", 5)], [])
            self.check(one_line(line.format("many(v)"), ["a", "b"]), "end", None, [], [((0,), 0), ((1,), 0)])
        self.check(one_line("out += [v]", None), "end", None, [], [((), 0)])
        self.check(one_line("out = out + [v]", None), "end", None, [], [((), 0)])
        self.check(one_line("out.join([v])", None), "fail", 5, [("fail", 5)], [])
        self.check(one_line("out.join([v])", ["a"]), "fail", 5, [("fail", 5)], [])

    def test_a_line_that_fails_hands_over_nothing(self):
        self.check(one_line("out.join(v)", ["a", "b", None]), "fail", 5, [("fail", 5)], [])
        self.check(one_line("out.join(v)", ["a", ["b"]]), "fail", 5, [("fail", 5)], [])
        self.check(one_line("g(*v)", ["a", "b"]), "fail", 5, [("fail", 5)], [])
        given = done("def f(v):\n  log(v)\n  out(v[0])\n  log(v)", [])
        self.check(given, "fail", 2, [("fail", 2)], [((), 0)])

    def test_order_and_manners(self):
        text = "def f(v):\n  for x in v:\n    b(x)\n    a.join(x)\n  a += v\n  b(*v)"
        self.assertEqual(done(text, [["x"], ["y", "z"]]).handed, [
            ("b", "whole", (0,), 0), ("a", "joined", (0, 0), 0), ("b", "whole", (1,), 0), ("a", "joined", (1, 0), 0),
            ("a", "joined", (1, 1), 0), ("a", "whole", (0,), 0), ("a", "whole", (1,), 0), ("b", "whole", (0,), 0), ("b", "whole", (1,), 0),
        ])


class Tests(Case):
    def holds(self, test, value, key=""):
        """Whether a test holds, and whether it slips; None if it fails."""
        given = done(f"def f(v):\n  if {test}:\n    yes(v)\n  else:\n    no(v)", value, key)
        slips = ("slip", 1) in given.fates
        if given.way == "fail":
            self.assertEqual((given.line, given.handed), (1, []))
            return None, slips
        self.assertEqual(len(given.handed), 1)
        return given.handed[0][0] == "yes", slips

    def test_kinds(self):
        for value in VALUES:
            self.assertEqual(self.holds("text v", value), (isinstance(value, str), False))
            self.assertEqual(self.holds("list v", value), (isinstance(value, list), False))
            self.assertEqual(self.holds("nothing v", value), (value is None, False))
            self.assertEqual(self.holds("v", value), (value not in (None, "", []), False))
            for key in ("", "a", "ab"):
                self.assertEqual(self.holds("key = v", value, key), (value == key, False))

    def test_kinds_of_wrapped_values(self):
        for value in (None, "", "a", [], ["a"]):
            for test, answer in [("text v", False), ("list v", True), ("nothing v", False), ("v", True), ("key = v", False)]:
                text = f"def g(v):\n  if {test}:\n    yes(v)\ndef f(v):\n  g([v])"
                self.assertEqual(len(done(text, value, "a").handed), int(answer))

    def test_lengths(self):
        signs = {"=": "__eq__", "!=": "__ne__", "<": "__lt__", "<=": "__le__", ">": "__gt__", ">=": "__ge__"}
        for sign, method in signs.items():
            for number in range(4):
                for value in ("", "a", "ab", "abc", "abcd", [], ["ab"], [None, []], ["a"] * 3, ["a"] * 9):
                    answer = getattr(len(value), method)(number)
                    other = getattr((1), method)(number)
                    slips = isinstance(value, str) and answer != other
                    self.assertEqual(self.holds(f"len v {sign} {number}", value), (answer, slips))
                    self.assertEqual(self.holds(f"len [v] {sign} {number}", value), (other, False))
                    inner = other if isinstance(value, str) else answer
                    self.assertEqual(self.holds(f"len many(v) {sign} {number}", value), (inner, False))
                    self.assertEqual(self.holds(f"len some(v) {sign} {number}", value), (inner, False))
                self.assertEqual(self.holds(f"len v {sign} {number}", None), (None, False))
                self.assertEqual(self.holds(f"len many(v) {sign} {number}", None), (None, False))
                self.assertEqual(self.holds(f"len some(v) {sign} {number}", None), (getattr((0), method)(number), False))
                self.assertEqual(self.holds(f"len [v] {sign} {number}", None), (getattr((1), method)(number), False))

    def test_members(self):
        for key in ("", "a", "b", "ab", "ba", "abc"):
            for value in ("", "a", "ab", "abab", "aab", "xabcx"):
                self.assertEqual(self.holds("key in v", value, key), (key in value, key in value and key != value))
                for form in ("[v]", "many(v)", "some(v)"):
                    self.assertEqual(self.holds(f"key in {form}", value, key), (key == value, False))
            for value in ([], ["a"], ["ab", "b"], ["abc", [key]], [""], [None, "ba"]):
                for form in ("v", "many(v)", "some(v)"):
                    self.assertEqual(self.holds(f"key in {form}", value, key), (key in value, False))
                self.assertEqual(self.holds("key in [v]", value, key), (False, False))
            self.assertEqual(self.holds("key in v", None, key), (None, False))
            self.assertEqual(self.holds("key in many(v)", None, key), (None, False))
            self.assertEqual(self.holds("key in some(v)", None, key), (False, False))
            self.assertEqual(self.holds("key in [v]", None, key), (False, False))

    def test_members_of_wraps(self):
        for value, answers in [("a", (True, False)), ("b", (False, False)), (["a"], (False, False))]:
            text = "def g(v):\n  if key in v:\n    one(v)\n  for x in [v]:\n    if key in [x]:\n      two(x)\ndef f(v):\n  g([v])"
            takers = [taker for taker, _, _, _ in done(text, value, "a").handed]
            self.assertEqual(("one" in takers, "two" in takers), answers)

    def test_operators(self):
        names = {"text v": lambda v: isinstance(v, str), "v": bool, "key = v": lambda v: v == "a", "list v": lambda v: isinstance(v, list)}
        for test, meant in [
            ("not text v", lambda t, v, k, w: not t), ("not not v", lambda t, v, k, w: v), ("text v or v and key = v", lambda t, v, k, w: t or v and k),
            ("text v and v or list v", lambda t, v, k, w: t and v or w), ("(list v or text v) and v", lambda t, v, k, w: (w or t) and v),
            ("not (list v or text v) or v", lambda t, v, k, w: not (w or t) or v), ("not list v and not v", lambda t, v, k, w: not w and not v),
            ("not (not (list v and v) and not key = v)", lambda t, v, k, w: not (not (w and v) and not k)),
            ("v and key = v or list v and not v or not text v", lambda t, v, k, w: v and k or w and not v or not t),
            ("((text v)) and (not (key = v or (list v or not v)))", lambda t, v, k, w: t and not (k or (w or not v))),
        ]:
            for value in (None, "", "a", "ab", [], ["a"]):
                answers = [bool(ask(value)) for ask in names.values()]
                self.assertEqual(self.holds(test, value, "a"), (bool(meant(*answers)), False), test)

    def test_what_is_not_evaluated(self):
        for test in ("v or len v = 0", "text v and len v = 1", "nothing v or key in v", "not (v or len v = 0)", "list v and (v or key in v)"):
            program = f"def f(v):\n  if {test}:\n    yes(v)\n  else:\n    no(v)"
            for value in ("abc", None, [], "a", ["a"], ""):
                plain = PlainRun(str(Program(program)), value, "a")
                given = done(program, value, "a")
                self.assertEqual((given.way, given.fates, given.handed), (plain.way, plain.fates, [gift[:4] for gift in plain.handed]))
        self.assertEqual(self.holds("v or len v = 2", "abc"), (True, False))
        self.assertEqual(self.holds("len v = 3 or v", "abc"), (True, True))
        self.assertEqual(self.holds("v and len v = 3", "abc"), (True, True))
        self.assertEqual(self.holds("list v and len v = 3", "abc"), (False, False))
        self.assertEqual(self.holds("nothing v or len v = 0", None), (True, False))
        self.assertEqual(self.holds("v or len v = 0", None), (None, False))
        self.assertEqual(self.holds("text v and key in v", None), (False, False))
        self.assertEqual(self.holds("not nothing v and len v = 0", None), (False, False))
        self.assertEqual(self.holds("(v or nothing v) or key in v", None), (True, False))
        self.assertEqual(self.holds("len v = 3 and len v = 0", "abc"), (False, True))


class Endless(Case):
    def test_letters(self):
        for line, at in (
            ("f(v[0])", 2), ("f(v[-1])", 2), ("f(*v)", 2), ("for x in v:\n    f(x)", 3), ("for x in v[:1]:\n    f(x)", 3),
        ):
            self.check(done(f"def f(v):\n  log(v)\n  {line}", "a"), "endless", at, [("endless", at)], [((), 0)])
        self.check(done("def f(v):\n  f(v[0])", "ab"), "endless", 1, [("slip", 1), ("endless", 1)], [])
        self.check(done("def f(v):\n  f(v[-1])", ["b", "a"]), "endless", 1, [("endless", 1)], [])
        self.check(done("def f(v):\n  for x in v[1:]:\n    f(x)", "a"), "end", None, [], [])

    def test_lists_of_what_was_called_with(self):
        for value in (None, "", "a", "ab", [], ["a", None], [["a"]]):
            for line, at in [
                ("f([v][0])", 1), ("f([v][-1])", 1), ("f(*[v])", 1), ("for x in [v]:\n    f(x)", 2), ("for x in [v][:1]:\n    f(x)", 2),
                ("for x in [v]:\n    for y in [x]:\n      f(y)", 3), ("for x in [v]:\n    f(*[x])", 2),
            ]:
                self.check(done(f"def f(v):\n  {line}", value), "endless", at, [("endless", at)], [])
        for value in ("", "a", "ab"):
            for line in ("f(many(v)[0])", "f(*some(v))"):
                self.check(done(f"def f(v):\n  {line}", value), "endless", 1, [("endless", 1)], [])

    def test_called_by_another_function(self):
        text = "def f(v):\n  if list v:\n    f(*v)\n  out(v)\ndef g(v):\n  f([v])\n  f([v])"
        self.check(done(text, "a"), "end", None, [], [((), 0), ((), 1)] * 2)
        endless = "def f(v):\n  for x in [v]:\n    f(x)\ndef g(v):\n  out(v)\n  f([v])\n  out(v)"
        self.check(done(endless, "a"), "endless", 2, [("endless", 2)], [((), 0)])

    def test_not_the_caller_but_the_function_itself(self):
        text = "def g(v):\n  out(v)\ndef f(v):\n  g(v)\n  for x in [v]:\n    g(x)"
        self.check(done(text, "a"), "end", None, [], [((), 0), ((), 0)])

    def test_only_with_the_value_of_the_last_call(self):
        text = "def f(v):\n  out(v)\n  if list v:\n    for x in v:\n      f(x)"
        self.check(done(text, [[], []]), "end", None, [], [((), 0), ((0,), 0), ((1,), 0)])

    def test_equal_values_in_wraps(self):
        text = "def f(v):\n  if list v:\n    for x in v:\n      f(x)\n  else:\n    out(v)\ndef g(v):\n  for x in v:\n    f([x])"
        self.check(done(text, [["a"], "b"]), "end", None, [], [((0, 0), 0), ((1,), 0)])


class PlacesAndWraps(Case):
    def test_letters_of_letters(self):
        text = "def f(v):\n  for x in v:\n    for y in x:\n      for z in y:\n        out(z)"
        self.check(done(text, "ab"), "end", None, [("slip", 1), ("letter", 4)], [((0,), 0), ((1,), 0)])
        self.check(done(text, ["ab", "c"]), "end", None, [("slip", 2), ("letter", 4)], [((0, 0), 0), ((0, 1), 0), ((1,), 0)])
        self.check(done(text, [["ab", "c"]]), "end", None, [("slip", 3), ("letter", 4)], [((0, 0, 0), 0), ((0, 0, 1), 0), ((0, 1), 0)])
        self.check(done(text, "a"), "end", None, [], [((), 0)])

    def test_wraps(self):
        text = "def a(v):\n  out(v)\n  for x in v:\n    out(x)\n    out([x])\ndef b(v):\n  a([v])\n  a(many(v))\ndef c(v):\n  b([v])"
        given = done(text, "ab")
        self.check(given, "end", None, [], [((), 2), ((), 1), ((), 2), ((), 1), ((), 0), ((), 1)])
        self.assertEqual(given.entries("out").listed(), [[["ab"]], ["ab"], [["ab"]], ["ab"], "ab", ["ab"]])

    def test_wrapped_letters_are_torn(self):
        for line in ("out([x])", "out(many(x))", "out += [x]", "out = out + many(x)", "out.join([x])", "out(*some(x))", "out([x][0])"):
            wraps = int(line in ("out([x])", "out(many(x))"))
            text = f"def f(v):\n  for x in v:\n    {line}"
            self.check(done(text, "ab"), "end", None, [("slip", 1), ("letter", 2)], [((0,), wraps), ((1,), wraps)])
            self.check(done(text, ["ab"]), "end", None, [], [((0,), wraps)])
            self.check(done(text, "a"), "end", None, [], [((), wraps)])

    def test_calls_do_not_hand_over(self):
        text = "def g(w):\n  if nothing w:\n    out(w)\ndef f(v):\n  for x in v:\n    g(x)"
        self.check(done(text, "ab"), "end", None, [("slip", 4)], [])

    def test_letter_once_for_a_line(self):
        given = done("def f(v):\n  out(*v)\n  log(*v)\n  log(*v)", "abcd")
        self.assertEqual(given.fates, [("slip", 1), ("letter", 1), ("slip", 2), ("letter", 2), ("slip", 3), ("letter", 3)])


class Fates(Case):
    def test_order_in_which_they_are_met_first(self):
        text = "def f(v):\n  for x in v:\n    if len x = 0:\n      out(x)\n    else:\n      out += x\n  out(v[0])"
        given = done(text, ["a", "", "", "ab", "a"])
        self.assertEqual(given.fates, [("slip", 2), ("slip", 5), ("letter", 5)])
        given = done(text, ["ab", "", "a"])
        self.assertEqual(given.fates, [("slip", 5), ("letter", 5), ("slip", 2)])

    def test_slips_ahead_of_failing(self):
        for line in ("out(v[0])", "out(v[-1])", "g(v[0])", "g(*v)"):
            self.assertEqual(one_line(line, "").fates, [("slip", 5), ("fail", 5)])
        self.assertEqual(one_line("out = out + v", "a").fates, [("slip", 5), ("fail", 5)])
        self.assertEqual(one_line("g(*v)", "abc").fates, [("slip", 5), ("fail", 5)])

    def test_slips_ahead_of_letters_and_endless(self):
        self.assertEqual(one_line("out.join(v)", "abc").fates, [("slip", 5), ("letter", 5)])
        self.assertEqual(one_line("f(v[0])", "abc").fates, [("slip", 5), ("endless", 5)])

    def test_slip_ahead_of_failing_in_a_test(self):
        given = done("def f(v):\n  for x in v:\n    if len x = 0 or key in x:\n      out(x)", ["", "ab", None, ""], "b")
        self.assertEqual((given.way, given.line, given.fates), ("fail", 2, [("slip", 2), ("fail", 2)]))

    def test_fates_before_the_end(self):
        text = "def f(v):\n  out += v\n  if key in v:\n    refuse"
        self.assertEqual(done(text, "ab", "a").fates, [("slip", 1), ("letter", 1), ("slip", 2), ("refuse", 3)])


class Told(Case):
    TEXT = "def f(v):\n  for x in v:\n    out([x])\n    log.join(x)\n    out += x"

    def test_entries(self):
        given = done(self.TEXT, [["a", "bc"], ["d"]])
        self.assertIsInstance(given.entries("out"), Entries)
        self.assertEqual(given.entries("out").listed(), [[["a", "bc"]], "a", "bc", [["d"]], "d"])
        self.assertEqual(given.entries("log").listed(), ["a", "bc", "d"])
        for taker in ("", "f", "v", "x", "other", "OUT", "out ", "for", "a b\n", "whole"):
            self.assertEqual(given.entries(taker).listed(), [])
            self.assertEqual(given.entries(taker=taker), Entries(None))

    def test_entries_are_one_each(self):
        given = done("def f(v):\n  out(v)\n  out([v])\n  out(v)", None)
        self.assertEqual(given.entries("out").listed(), [None, [None], None])
        given = done("def f(v):\n  out(v)\n  out(*v)", ["ab", ["cd"], None])
        self.assertEqual(given.entries("out").listed(), [["ab", ["cd"], None], "ab", ["cd"], None])

    def test_entries_of_runs_that_did_not_end_of_themselves(self):
        given = done(self.TEXT, [["a"], [None], ["b"]])
        self.check(given, "fail", 3, [("fail", 3)], [((0,), 1), ((0, 0), 0), ((0, 0), 0), ((1,), 1)])
        self.assertEqual(given.entries("out").listed(), [[["a"]], "a", [[None]]])

    def test_new_each_time(self):
        value = [["a", "bc"], ["d"]]
        given = done("def f(v):\n  out(v)\n  out(v)\n  for x in v:\n    out([x])\n  log(*v)\n  log(v[0])", value)
        spoil(value)
        before = copy.deepcopy((given.fates, given.handed, given.entries("out").listed(), given.entries("log").listed()))
        self.assertEqual(before[3], [["a", "bc"], ["d"], ["a", "bc"]])
        self.assertFalse(has_twice(list(given.entries("out"))))
        self.assertFalse(shares_list(list(given.entries("out")), list(given.entries("out"))))
        self.assertFalse(shares_list(list(given.entries("out")), list(given.entries("log"))))
        given.fates.append(("spoilt", 1))
        given.handed.clear()
        entries = given.entries("out")
        entries += "spoilt"
        for entry in given.entries("log"):
            spoil(entry)
        self.assertEqual((given.fates, given.handed, given.entries("out").listed(), given.entries("log").listed()), before)

    def test_kinds_of_values(self):
        given = done(self.TEXT, "ab")
        self.assertIsInstance(given, Run)
        self.assertIs(type(given.fates), list)
        self.assertIs(type(given.handed), list)
        for fate in given.fates:
            self.assertIs(type(fate), tuple)
        for gift in given.handed:
            self.assertIs(type(gift), tuple)
            self.assertIs(type(gift[2]), tuple)

    def test_lists_that_stand_at_two_places(self):
        row = ["a"]
        given = done("def f(v):\n  for x in v:\n    out(x)", [row, row])
        self.assertEqual([place for _, _, place, _ in given.handed], [(0,), (1,)])
        self.assertFalse(has_twice(list(given.entries("out"))))

    def test_arguments_are_not_changed(self):
        program = Program(self.TEXT)
        before = str(program), program.spots()
        for value in VALUES:
            kept = copy.deepcopy(value)
            run(program, value, key="a")
            list(trace(program, value))
            self.assertEqual(value, kept)
        self.assertEqual((str(program), program.spots()), before)

    def test_four_thousand_parts(self):
        given = done("def f(v):\n  for x in v:\n    out(x)\n    out(x)", ["ab"] * 399)
        self.assertEqual(len(given.handed), 798)
        self.assertEqual(len(given.entries("out")), 798)
        given = done("def f(v):\n" + "  out(*v)\n" * 9 + "  out(*v)", [None] * 399)
        self.assertEqual(given.entries("out").listed(), [None] * 3990)

    def test_deep_values(self):
        value = nested("ab", 12)
        for _ in range(300):
            value = wrapped(value, ())
        given = done(FLAT, value)
        self.check(given, "end", None, [], [((0,) * 312, 0)])
        self.assertEqual(given.entries("out").listed(), ["ab"])
        self.assertEqual(done("def f(v):\n  out([v])", value).entries("out").listed(), [[value]])
        self.assertEqual(len(list(trace(Program(FLAT), value))), 312 * 3)


class Meets(Case):
    def test_kinds_and_lines(self):
        given = done("def f(v):\n  out += v\n  log(v[0])\n  refuse", "ab")
        self.assertEqual(given.fates, [("slip", 1), ("letter", 1), ("slip", 2), ("letter", 2), ("refuse", 3)])
        for bad, answer in [
            ([], False), ((), False), (["slip"], True), (("slip",), True), (["fail"], False), (["fail", "endless"], False),
            (["fail", "refuse"], True), ([("slip", 1)], True), ([("slip", 3)], False), ([("letter", 2)], True), ((("fail", 1),), False),
            ([("refuse", 3), "fail"], True), ([("slip", 10 ** 29), ("slip", -1), ("letter", 0)], False), (["letter"] * 8, True),
        ]:
            self.assertIs(given.meets(bad), answer)
            self.assertIs(given.meets(bad=bad), answer)

    def test_each_fate(self):
        runs = {
            "slip": one_line("for x in v:\n    skip", ""), "letter": one_line("for x in v:\n    out([x])", "ab"),
            "fail": one_line("out += v", None), "refuse": one_line("refuse", "a"), "endless": one_line("f(*v)", "a"),
        }
        for kind, given in runs.items():
            kinds = [fate for fate, _ in given.fates]
            for other in runs:
                self.assertIs(given.meets([other]), other in kinds)
            for fate in given.fates:
                self.assertIs(given.meets([fate]), True)
                self.assertIs(given.meets([(fate[0], fate[1] + 1)]), (fate[0], fate[1] + 1) in given.fates)
            self.assertIn(kind, kinds)

    def test_bad_fates(self):
        given = one_line("out += v", "ab")
        for thing in (
            None, True, False, 0, 5, "", "slips", "Slip", "slip ", "whole", (), ("slip",), ("slip", 1, 1), ("slip", True), ("slip", False),
            ("slip", None), ("slip", "1"), ("slip", (1,)), (1, "slip"), ("slipped", 1), (None, 1), ("slip", "letter"), ["slip"], ["slip", 1],
            [], [("slip", 1)], (("slip", 1),), (["slip"], 1), ("", 1), 10 ** 29, nested("slip", 12), (("slip",), 1), (True, 1),
        ):
            for ahead in ([], ["slip"], [("fail", 3), "refuse"]):
                for bad in ([*ahead, thing], (*ahead, thing, None), [*ahead, thing, "slip"]):
                    with self.assertRaises(BadFate) as held:
                        given.meets(bad)
                    self.assertEqual(held.exception.at, len(ahead))

    def test_bad_stays(self):
        bad = ["slip", ("letter", 5)]
        one_line("out += v", "ab").meets(bad)
        self.assertEqual(bad, ["slip", ("letter", 5)])


class Traces(Case):
    def test_flat(self):
        self.assertEqual(list(trace(Program(FLAT), ["ab", ["c"]])), [1, 2, 5, 2, 3, 1, 2, 5])
        self.assertEqual(list(trace(Program(FLAT), "")), [1])
        self.assertEqual(list(trace(Program(FLAT), None)), [1])
        self.assertEqual(list(trace(Program(FLAT), [])), [1])

    def test_all_lines(self):
        text = (
            "def g(w):\n  if key = w:\n    refuse\n  out(w)\ndef f(v):\n  for x in v:\n    if text x:\n      g(x)\n      skip\n"
            "    else:\n      if nothing x:\n        break\n    log(x)\n  return\n  log(v)"
        )
        self.assertEqual(list(trace(Program(text), ["a", [], None, "b"], key="c")), [5, 6, 7, 1, 3, 8, 6, 10, 12, 6, 10, 11, 13])
        self.assertEqual(list(trace(Program(text), ["a", "c", []], key="c")), [5, 6, 7, 1, 3, 8, 6, 7, 1, 2])
        self.assertEqual(list(trace(Program(text), "c", key="c", name="g")), [1, 2])

    def test_the_last_line_is_where_the_run_ends(self):
        for line, value in (("out(v[0])", []), ("out += v", None), ("g(*v)", "ab"), ("f(*v)", "a"), ("refuse", "a"), ("if key in v:\n    return", None)):
            given = one_line(line, value)
            program = Program(f"def g(w):\n  got(w)\n  if list w:\n    return\ndef f(v):\n  {line}")
            self.assertEqual(list(trace(program, value)), [5])
            self.assertEqual(given.line, 5)

    def test_a_generator(self):
        steps = trace(Program(FLAT), ["a"])
        self.assertIs(iter(steps), steps)
        self.assertEqual([next(steps), next(steps), next(steps)], [1, 2, 5])
        with self.assertRaises(StopIteration):
            next(steps)

    def test_raises_when_it_is_iterated(self):
        wrong_name = trace(Program(FLAT), "a", name="none")
        wrong_value = trace(Program(FLAT), ["a", 1])
        both_wrong = trace(Program(FLAT), ["a", 1], name="none")
        with self.assertRaises(NoFunction):
            next(wrong_name)
        with self.assertRaises(BadValue) as held:
            next(wrong_value)
        self.assertEqual(held.exception.place, (1,))
        with self.assertRaises(NoFunction):
            list(both_wrong)

    def test_two_at_once(self):
        program = Program(FLAT)
        self.assertEqual(list(zip(trace(program, ["a"]), trace(program, [["a"]]))), [(1, 1), (2, 2), (5, 3)])

    def test_first_parting(self):
        program = Program(FLAT)
        self.assertEqual(first_parting(program, ["a"], [["a"]]), (2, 5, 3))
        self.assertEqual(first_parting(program, "a", "ab"), (3, None, 2))
        self.assertEqual(first_parting(program, "ab", "a"), (3, 2, None))
        self.assertEqual(first_parting(program, [], ["a"]), (1, None, 2))
        self.assertEqual(first_parting(program, one=["a"], other=[]), (1, 2, None))
        self.assertIsNone(first_parting(program, ["a"], ["bc"]))
        self.assertIsNone(first_parting(program, "a", ["a"]))
        self.assertIsNone(first_parting(program, None, []))
        self.assertIsNone(first_parting(program, None, ""))

    def test_first_parting_at_the_first_line(self):
        program = Program("def f(v):\n  if text v:\n    return\n  else:\n    refuse\ndef g(v):\n  f(v)")
        self.assertEqual(first_parting(program, "a", None), (2, 2, 4))
        self.assertEqual(first_parting(program, "a", None, name="f"), (1, 2, 4))
        program = Program("def f(v):\n  if key = v:\n    out(v)\n  log(v)")
        self.assertEqual(first_parting(program, "a", "b", key="b"), (1, 3, 2))
        self.assertIsNone(first_parting(program, "a", "b", key="c"))
        self.assertIsNone(first_parting(program, "a", "b"))
        self.assertEqual(first_parting(program, "", "b"), (1, 2, 3))


class NamesAndValues(Case):
    TEXT = "def one(v):\n  for x in v:\n    one(x)\ndef two(w):\n  one(w)\n  out(w)"

    def test_names(self):
        program = Program(self.TEXT)
        self.assertEqual(run(program, [], name="one").handed, [])
        self.assertEqual(len(run(program, [], name="two").handed), 1)
        self.assertEqual(len(run(program, []).handed), 1)
        self.assertEqual(len(run(name=None, value=[], program=program, key="").handed), 1)
        self.assertEqual(list(trace(program, [], name="one")), [1])
        self.assertEqual(list(trace(name="two", value=[], program=program)), [4, 1, 5])

    def test_keys(self):
        program = Program("def f(v):\n  if key = v:\n    out(v)")
        for key in ("", "a", "ab", "abc"):
            for value in ("", "a", "ab", "abc", "abcd"):
                self.assertEqual(len(run(program, value, key=key).handed), int(key == value))
        self.assertEqual(len(run(program, "").handed), 1)
        self.assertEqual(list(trace(program, "")), [1, 2])

    def test_no_functions(self):
        program = Program(self.TEXT)
        for name in (
            "", "three", "out", "v", "On", "one ", "One", True, False, 0, 1, -1, 10 ** 29, [], ["one"], (), ("one",), [None], nested("one", 13),
        ):
            for value in ([], ["a", 1], 0, (), "B", None):
                for call in (run, lambda *rest, **more: list(trace(*rest, **more))):
                    with self.assertRaises(NoFunction) as held:
                        call(program, value, name=name)
                    self.assertEqual(repr(held.exception.name), repr(name))
            with self.assertRaises(NoFunction) as held:
                first_parting(program, [], [], name=name)
            self.assertEqual(repr(held.exception.name), repr(name))

    def test_no_values(self):
        program = Program(self.TEXT)
        for thing, place in NO_VALUES:
            for name in (None, "one", "two"):
                for call in (run, lambda *rest, **more: list(trace(*rest, **more))):
                    with self.assertRaises(BadValue) as held:
                        call(program, thing, name=name)
                    self.assertEqual(held.exception.place, place)

    def test_names_by_name_only(self):
        program = Program(self.TEXT)
        with self.assertRaises(TypeError):
            run(program, [], "a")
        with self.assertRaises(TypeError):
            list(trace(program, [], "a"))
        with self.assertRaises(TypeError):
            first_parting(program, [], [], "a")


class MadeUp(Case):
    def test_against_a_second_opinion(self):
        rng = random.Random(91)
        ways = {}
        for _ in range(600):
            try:
                program = Program(made_up.program(rng))
            except TooMany:
                continue
            for _ in range(6):
                value, key, name = made_up.value(rng), made_up.key(rng), rng.choice([None] + program.names())
                try:
                    plain = PlainRun(str(program), value, key, name)
                except TooLong:
                    continue
                given = run(program, value, key=key, name=name)
                told = (str(program), value, key, name)
                self.check(given, plain.way, plain.line, plain.fates, [(place, wraps) for _, _, place, wraps, _ in plain.handed])
                self.assertEqual(given.handed, [gift[:4] for gift in plain.handed], told)
                self.assertEqual(list(trace(program, value, key=key, name=name)), plain.lines, told)
                for taker in program.takers():
                    self.assertEqual(given.entries(taker).listed(), [gift[4] for gift in plain.handed if gift[0] == taker], told)
                ways[given.way] = ways.get(given.way, 0) + 1
        self.assertEqual(sorted(ways), ["end", "endless", "fail", "refuse"])

    def test_partings(self):
        rng = random.Random(92)
        parted = 0
        for _ in range(200):
            try:
                program = Program(made_up.program(rng))
            except TooMany:
                continue
            one, other, key = made_up.value(rng), made_up.value(rng), made_up.key(rng)
            lines, beside = list(trace(program, one, key=key)), list(trace(program, other, key=key))
            given = first_parting(program, one, other, key=key)
            if lines == beside:
                self.assertIsNone(given)
                continue
            at = given[0]
            self.assertEqual(lines[:at], beside[:at])
            self.assertEqual(given[1:], ((lines + [None])[at], (beside + [None])[at]))
            self.assertNotEqual(given[1], given[2])
            parted += 1
        self.assertGreater(parted, 50)


if __name__ == "__main__":
    unittest.main()

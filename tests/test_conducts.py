"""Stage 7: which values have the same conduct, and tables with a least value for each."""

import random
import unittest

from tests import made_up, plain_conducts, plain_shapes
from tests.plain_runs import TooLong
from tests.samples import has_twice, nested, shares_list, spoil
from textorlist.conducts import same_conduct, same_pair_conduct, table, table_of_pairs
from textorlist.errors import BadFate, TooMany
from textorlist.programs import Program
from textorlist.shapes import Shape
from textorlist.values import places_of, size_of

QUIET = Program("def f(v):\n  return")
KEYED = Program("def f(v):\n  if key = v:\n    return")
EXAMPLE = Program("def main(v):\n  for x in v:\n    out(x)")
KINDS = ("slip", "letter", "fail", "refuse", "endless")
NO_FATES = [
    "", "slips", "Slip", "end", None, True, 1, [], ["slip", 1], ["slip"], (), ("slip",), ("slip", "1"), ("slip", None),
    ("slip", True), ("slip", False), ("slip", 1, 2), (1, "slip"), ("end", 1), (("slip", 1), 1), ("slip", (1,)), [("slip", 1)],
    nested("slip", 13), 10 ** 29,
]


def behind_return(*lines):
    """A program that only returns, with more lines behind this."""
    return Program("def f(v):\n  return\n  " + "\n  ".join(lines))


def bad_of(rng):
    """Some bad fates."""
    return [rng.choice(KINDS) if rng.randrange(2) else (rng.choice(KINDS), rng.randrange(9)) for _ in range(rng.randrange(4))]


def made(rng, left=7):
    """A making of a shape that may be asked for conducts."""
    making = ("never",)
    while making == ("never",) or plain_shapes.calls(making, ("lists", "nested")) > 3:
        making = plain_shapes.made_up(rng, left, 3)
    return making


class Same(unittest.TestCase):
    """`same_conduct` for values that differ in one thing alone."""

    def check(self, same, values, program=QUIET, shape=Shape.every(), bad=(), key=""):
        for one in values:
            self.assertTrue(same_conduct(program, shape, one, one, bad=bad, key=key))
            for other in values:
                if one != other:
                    told = same_conduct(program, shape, one, other, bad=bad, key=key)
                    self.assertIs(told, same, (str(program), one, other))

    def test_kinds_and_counts(self):
        self.check(False, [None, "", [], "a", ["a"], "ab", ["a", "a"]])
        self.check(True, ["ab", "abc", "zzzz", "z" * 399])
        self.check(True, [["a", "a"], [None, [], []], [[[]]] * 99])
        self.check(True, ["a", "z"])
        self.check(True, [["a"], [None], [[[]]]])

    def test_counts_up_to_numbers_of_the_program(self):
        for number, line in ((2, "len [v] < 2"), (3, "text v or not (v and len some(v) != 3)"), (2, "len v = 0 or len v > 2")):
            for head in ("def f(v):\n  if ", "def g(v):\n  if "):
                tail = ":\n    return" + ("\ndef main(v):\n  return" if "g" in head else "")
                program = Program(head + line + tail)
                self.check(False, ["a" * many for many in range(1, number + 2)], program)
                self.check(False, [[None] * many for many in range(1, number + 2)], program)
                self.check(True, ["a" * many for many in range(number + 1, number + 4)], program)
                self.check(True, [[None] * many for many in range(number + 1, number + 4)], program)
        self.check(False, ["", "a", "ab"], Program("def f(v):\n  if len [v] = 0:\n    return"))
        self.check(True, ["ab", "abc"], Program("def f(v):\n  if len [v] <= 1:\n    return"))

    def test_counts_up_to_numbers_of_the_shape(self):
        changed = Shape.every()
        changed &= ~Shape.texts(3, 2)
        for shape in (Shape.texts(3, 1), ~Shape.texts(3, 2), Shape.lists(Shape.texts(3, 1)) | Shape.every(), changed):
            self.check(False, ["ab", "abc", "abcd"], shape=shape)
            self.check(False, [[[], []], [[], [], []], [[], [], [], []]], shape=shape)
            self.check(True, ["abcd", "abcde"], shape=shape)
            self.check(True, [[[]] * 4, [[]] * 5], shape=shape)
        self.check(False, ["ab", "abc"], shape=Shape.texts(2, 1))
        self.check(True, ["abc", "abcd"], shape=Shape.texts(2, 1))
        self.check(True, ["ab", "abc"], shape=Shape.texts(1, 0))

    def test_other_numbers_do_not_count(self):
        self.check(True, ["ab", "abc"], Program("def f(v):\n  for x in [v][1:]:\n    return"), key="aab")

    def test_loops_that_are_not_reached(self):
        for head, asked in (("v", True), ("many(v)", True), ("some(v)", True), ("[v]", False)):
            for deed in ("break", "return", "refuse"):
                program = behind_return(f"for x in {head}:", "  if list x:", f"    {deed}")
                self.check(not asked, [[None], [[]]], program)
                self.check(not asked, [["a", []], ["a", "b"]], program)
                self.check(True, [[None], ["a"]], program)
            self.check(True, [[None], [[]]], behind_return(f"for x in {head}:", "  if list x:", "    skip"))

    def test_how_loops_end_is_told_apart(self):
        for one in ("skip", "break", "return", "refuse"):
            for other in ("skip", "break", "return", "refuse"):
                program = behind_return("for x in v:", "  if text x:", f"    {one}", "  else:", f"    {other}")
                self.check(one == other, [["a"], [None]], program)
                self.check(one == other, [["a", "b"], [[], None]], program)
                self.check(True, [[["a"]], [[None]]], program)

    def test_runs_that_end_in_loops_are_alike(self):
        early = "def g(w):\n  for y in [w]:\n    g(y)\ndef f(v):\n  return\n  for x in v:\n    if text x:\n      {}\n    else:\n      {}"
        for one in ("refuse", "log = log + x", "g(x)"):
            for other in ("refuse", "out += x", "g(x)"):
                self.check(True, [["a"], [None]], Program(early.format(one, other)))

    def test_cuts_of_loops(self):
        for cut, at in (("", None), ("[:1]", 0), ("[1:]", 1)):
            program = behind_return(f"for x in v{cut}:", "  if list x:", "    refuse")
            self.check(at == 1, [[[], None], [None, None]], program)
            self.check(at == 0, [[None, []], [None, None]], program)

    def test_calls_that_are_not_reached(self):
        early = "def g(w):\n  if list w:\n    refuse\ndef f(v):\n  return\n  "
        for call, asked, at in (
            ("g({}[0])", True, 0), ("g({}[-1])", True, 1), ("g(*{})", True, None), ("g({})", False, None),
        ):
            for given in ("v", "many(v)", "some(v)", "[v]"):
                if call == "g({})" and given == "some(v)":
                    continue
                program = Program(early + call.format(given))
                seen = asked and given != "[v]"
                if at is None:
                    self.check(not seen, [[None], [[]]], program)
                else:
                    one, other = [None, None], [None, None]
                    one[at] = []
                    self.check(not seen, [one, other], program)
                    other[1 - at] = []
                    self.check(True, [[None, None], other], program)

    def test_lines_that_hand_over(self):
        for given, asked in (("v", True), ("many(v)", True), ("some(v)", True), ("[v]", False)):
            program = behind_return(f"t.join({given})")
            self.check(not asked, [["a", None], ["a", "b"]], program)
            self.check(True, [["a", None], [[], "b"]], program)
        for line in ("t += v", "t = t + v", "t(v[0])", "t(v[-1])", "t(*v)"):
            self.check(True, [["a", None], ["a", "b"]], behind_return(line))

    def test_letters_of_texts(self):
        program = behind_return("for x in v[1:]:", "  if key = x:", "    refuse")
        self.check(False, ["baa", "aba"], program, key="b")
        self.check(True, ["baa", "aba"], program, key="b", bad=["slip"])
        self.check(False, ["baa", "aba"], program, key="b", bad=[("slip", 1)])
        for given in ("many(v)", "some(v)", "[v]"):
            program = behind_return(f"for x in {given}[1:]:", "  if key = x:", "    refuse")
            self.check(True, ["baa", "aba"], program, key="b")
        self.check(True, ["baa", "aba"], KEYED, key="b")

    def test_bad_fates_of_lines(self):
        program = behind_return("for x in v:", "  for y in x:", "    out(y)")
        self.check(True, [["a"], ["b"], [[]], [["ab"]]], program, bad=["slip", "letter", "fail"])
        self.check(False, [["a"], ["ab"]], program, bad=["slip"])
        self.check(False, [["a"], ["ab"]], program, bad=[("slip", 3)])
        self.check(False, [["a"], ["ab"]], program, bad=["letter"])
        self.check(False, [["a"], ["ab"]], program, bad=[("refuse", 1), ("letter", 4)])
        self.check(True, [["a"], ["ab"]], program, bad=["fail", "endless", "refuse"])
        self.check(True, [["a"], ["ab"]], program, bad=[("slip", 4), ("letter", 3), ("slip", -1), ("slip", 99)])
        self.check(False, [["a"], [None]], program, bad=["slip"])
        self.check(True, [["ab"], [None]], program, bad=["slip", "fail"])
        self.check(False, [["ab"], [None]], program, bad=["slip"])

    def test_failing_itself_with_a_bad_fate(self):
        program = behind_return("t.join(v)")
        self.check(False, [["a"], [None]], program, bad=["fail"])
        self.check(True, [[[]], [None]], program, bad=["fail"])

    def test_blocks_that_are_not_reached(self):
        program = Program("def g(w):\n  for x in w:\n    if nothing x:\n      refuse\ndef f(v):\n  return")
        self.check(False, [["a"], [None]], program)
        program = Program("def f(v):\n  return\n  for x in [v]:\n    for y in x:\n      if nothing y:\n        break")
        self.check(False, [["a"], [None]], program)
        program = Program("def f(v):\n  return\n  for x in [v]:\n    for y in x:\n      if nothing y:\n        skip")
        self.check(True, [["a"], [None]], program)
        self.check(False, [["a"], ["ab"]], Program("def g(w):\n  for x in w:\n    t += x\ndef f(v):\n  return"), bad=["slip"])

    def test_calls_in_blocks(self):
        early = "def h(u):\n  for z in u:\n    if nothing z:\n      refuse\ndef g(w):\n  h(w)\ndef f(v):\n  return\n"
        self.check(False, [["a"], [None]], Program(early + "  for x in [v]:\n    g(x)"))
        self.check(False, [[["a"]], [[None]]], Program(early + "  for x in v:\n    g(x)"))
        self.check(True, [[["a"]], [[None]]], Program(early + "  for x in v:\n    g([x])"))

    def test_values_of_their_own_are_whole(self):
        program = Program("def f(v):\n  for x in v:\n    out(x)")
        self.check(True, ["a", "b"], program, bad=["letter"])
        self.check(False, ["a", "ab"], program, bad=["letter"])
        inner = Program("def f(v):\n  return\n  for x in [v]:\n    out(x)\n    out([x])")
        one, other = table(inner, Shape.every(), bad=["letter"]), table(inner, Shape.every(), bad=())
        self.assertEqual(one, other)

    def test_calls_are_new_runs(self):
        program = Program("def f(v):\n  for x in v:\n    if list x:\n      f(x)\n    if text x:\n      f(x)")
        self.check(False, [[["b"]], [[None]]], program, bad=["endless"])
        self.check(True, [[["b"]], [["b", "a"]]], program, bad=["endless"])
        self.check(True, [[None], [[]], [[None]], [[[], None]]], program, bad=["endless"])
        wraps = Program("def f(v):\n  if v:\n    for x in [v]:\n      if text x:\n        f(x)")
        self.check(False, ["a", [None]], wraps, bad=["endless"])
        self.check(True, [[None], [[None]]], wraps, bad=["endless"])

    def test_key_in_lists(self):
        for key in ("", "a", "ab", "abc"):
            self.check(False, [[key], ["z"]], KEYED, key=key)
            self.check(False, [["z", key], ["z", None]], KEYED, key=key)
            self.check(True, [[key, "y"], ["z", key, None]], KEYED, key=key)
            self.check(True, [[[key]], [["z"]]], KEYED, key=key)
            self.check(True, [[key], ["z"]], QUIET, key=key)
        self.check(True, [["abc"], ["z"]], KEYED, key="ab")

    def test_key_in_texts(self):
        for values, key in [
            (["ab", "cd"], "ab"), (["a", "c"], "ab"), (["abc", "acb"], "ab"), (["ca", "cc"], "ab"), (["aa", "caa"], "aab"),
            (["ca", "caa", "cb"], "aab"), (["xa", "xab", "xb"], "abc"), (["a", "b"], "a"), (["xbx", "xxx"], "b"),
            (["aab", "caab"], "aab"), (["ca", "cb"], "aba"), (["cab", "cabb"], "aba"),
        ]:
            self.check(False, values, KEYED, key=key)
            self.check(True, values, QUIET, key=key)
            self.check(False, values, Program("def f(v):\n  if key in [v]:\n    return"), key=key)
        for values, key in [
            (["b", "c", "x"], "ab"), (["cb", "cd", "cc"], "ab"), (["xa", "xca", "za"], "ab"), (["xaa", "aaa"], "aab"),
            (["xabx", "abc", "aabb"], "ab"), (["aba", "xaba", "abca"], "ab"), (["a", "z"], ""), (["ab", "xyz"], ""),
        ]:
            self.check(True, values, KEYED, key=key)

    def test_shapes(self):
        texts = Shape.texts()
        for shape in (
            Shape.lists(texts), ~Shape.lists(texts), Shape.lists(texts) & Shape.never(), Shape.every() | Shape.lists(texts),
            Shape.every() - Shape.lists(texts), Shape.nested(texts), Shape.lists(Shape.nested(texts)),
            Shape.nested(Shape.lists(texts)),
        ):
            self.check(False, [["a"], [None]], shape=shape)
        self.check(True, [["a"], [None]], shape=texts)
        self.check(False, [["a"], [[]]], shape=Shape.lists(texts))
        self.check(True, [["a"], [[]]], shape=Shape.nested(texts))
        self.check(False, [[["a"]], [[None]]], shape=Shape.nested(texts))
        self.check(True, [[["a"]], [[None]]], shape=Shape.lists(texts))
        self.check(False, [["a"], ["ab"]], shape=Shape.lists(Shape.texts(1, 1)))
        self.check(False, [["a"], ["ab"]], shape=Shape.lists(Shape.texts(0, 1)) & Shape.never())

    def test_lists_of_nested_shapes(self):
        inner = Shape.lists(Shape.nothing() | Shape.lists(Shape.never()))
        self.check(False, [[None], [[]]], shape=Shape.nested(inner))
        self.check(False, [[None], [[]]], shape=Shape.every() | Shape.nested(inner))
        self.check(True, [[None], [[]]], shape=inner)

    def test_shapes_that_were_changed(self):
        values = [["a"], [None]]
        shape = Shape.every()
        other = shape
        self.check(True, values, shape=shape)
        shape |= Shape.lists(Shape.texts())
        self.check(False, values, shape=shape)
        self.check(False, values, shape=other)
        shape &= Shape.never()
        self.check(False, values, shape=shape)
        shape = Shape.lists(Shape.texts())
        shape &= shape
        self.check(False, values, shape=shape)
        part = Shape.never()
        above = part | Shape.nothing()
        part |= Shape.lists(Shape.texts())
        self.check(True, values, shape=above)

    def test_bad_fates(self):
        for at, thing in enumerate(NO_FATES):
            for bad in ([thing], (thing,)):
                with self.assertRaises(BadFate) as caught:
                    same_conduct(QUIET, Shape.every(), "a", "b", bad=bad)
                self.assertEqual(caught.exception.at, 0)
            bad = ["slip", ("fail", -1)] + NO_FATES[at:at + 3]
            with self.assertRaises(BadFate) as caught:
                same_conduct(QUIET, Shape.every(), "a", "b", bad=bad)
            self.assertEqual(caught.exception.at, 2)
        for bad in ((), [], KINDS, [("slip", 10 ** 29), ("letter", -3)], [("endless", 0)] * 8):
            self.assertTrue(same_conduct(QUIET, Shape.every(), "a", "b", bad=bad))

    def test_defaults_and_names(self):
        program = Program("def f(v):\n  for x in v:\n    if key = x:\n      refuse\n    for y in [x]:\n      f(y)")
        self.assertFalse(same_conduct(EXAMPLE, Shape.every(), "a", "ab"))
        told = same_conduct(other=["z"], key="a", one=["a"], shape=Shape.every(), bad=["refuse"], program=program)
        self.assertFalse(told)
        self.assertTrue(same_conduct(program, Shape.every(), ["z"], ["a"]))
        self.assertFalse(same_conduct(program, Shape.every(), ["a"], [""]))

    def test_large_and_deep_values(self):
        one = ["ab", ["c", None], [[]]] * 40
        self.assertTrue(same_conduct(EXAMPLE, Shape.every(), one, one[::-1]))
        walk = Program("def f(v):\n  for x in v:\n    if list x:\n      f(x)\n    else:\n      out(x[0])")
        for leaf, same in (("a", True), ("b", True), ("", False), (None, False)):
            self.assertEqual(same_conduct(walk, Shape.every(), nested("a", 12), nested(leaf, 12), bad=()), same)

    def test_second_opinion(self):
        rng = random.Random(70)
        told = [0, 0]
        for _ in range(110):
            text, making, key, bad = made_up.right_program(rng), made(rng), made_up.key(rng), bad_of(rng)
            program, shape = Program(text), plain_shapes.built(making)
            values = [made_up.value(rng) for _ in range(10)]
            try:
                signs = [plain_conducts.conduct(text, making, value, bad, key) for value in values]
            except TooLong:
                continue
            for one, sign in zip(values, signs):
                for other, beside in zip(values, signs):
                    same = same_conduct(program, shape, one, other, bad=bad, key=key)
                    self.assertIs(same, sign == beside, (text, making, key, bad, one, other))
                    told[same] += 1
        self.assertGreater(min(told), 1000)


class Tables(unittest.TestCase):
    def test_example(self):
        expected = [1, 1, 1, 2, 2, 3, 3]
        for bad in (["slip"], ["fail"]):
            told = table(EXAMPLE, Shape.every(), bad=bad)
            self.assertIsInstance(told, tuple)
            self.assertEqual([size_of(value) for value in told], expected)
            self.assertEqual(sorted(map(repr, told[:3])), ["''", "None", "[]"])
        texts = Shape.lists(Shape.texts())
        self.assertEqual(len(table(EXAMPLE, texts, bad=["slip"])), 9)
        self.assertEqual(len(table(EXAMPLE, texts, bad=["fail"])), 9)

    def test_second_opinion(self):
        rng = random.Random(71)
        counted = many = 0
        for _ in range(90):
            text, making, key, bad = made_up.right_program(rng), made(rng, 5), made_up.key(rng), bad_of(rng)
            sign = plain_conducts.remembered(lambda value: plain_conducts.conduct(text, making, value, bad, key))
            try:
                told = table(Program(text), plain_shapes.built(making), bad=bad, key=key)
            except TooMany as error:
                self.assertEqual(error.what, "conducts")
                many += 1
                continue
            if len(told) > 22:
                continue
            counted += 1
            sizes = [size_of(value) for value in told]
            self.assertEqual(sizes, sorted(sizes))
            least = plain_conducts.least_sizes(sign, size_of, plain_conducts.starts, plain_conducts.grown, key, 40)
            self.assertEqual(len(told), len(least), (text, making, bad, key))
            self.assertEqual({sign(value): size_of(value) for value in told}, least, (text, making, bad, key))
        self.assertGreater(counted, 30)
        self.assertGreater(many, 5)

    def test_all_small_values_are_shown(self):
        rng = random.Random(72)
        for _ in range(25):
            text, making, key, bad = made_up.right_program(rng), made(rng, 5), made_up.key(rng), bad_of(rng)
            program, shape = Program(text), plain_shapes.built(making)
            try:
                told = table(program, shape, bad=bad, key=key)
            except TooMany:
                continue
            for _ in range(12):
                value = made_up.value(rng)
                like = [one for one in told if same_conduct(program, shape, one, value, bad=bad, key=key)]
                self.assertEqual(len(like), 1, (text, making, key, bad, value))
                self.assertLessEqual(size_of(like[0]), size_of(value))

    def test_forty_conducts_are_not_too_many(self):
        forty = [
            ("def g(w):\n  g(w[0])\ndef main(w):\n  if (key = w):\n    t.join(some(w))", ("texts", 3, None), "abc"),
            ("def f(w):\n  if key = w:\n    t.join(w)\n    t += many(w)\n  f(w[-1])", ("texts", 3, None), "aab"),
        ]
        for text, making, key in forty:
            told = table(Program(text), plain_shapes.built(making), key=key)
            self.assertEqual(len(told), 40)
            self.check_count(text, making, key, 40)
        more = [
            ("def f(y):\n  for y in some(y)[:1]:\n    f(y[-1])", ("nested", ("texts", 1, None)), "ab"),
            ("def f(y):\n  for x in many(y)[1:]:\n    for v in x:\n      f(v[0])", ("texts", 0, None), "a"),
        ]
        for text, making, key in more:
            with self.assertRaises(TooMany) as caught:
                table(Program(text), plain_shapes.built(making), key=key)
            self.assertEqual(caught.exception.what, "conducts")
            self.check_count(text, making, key, 41)

    def check_count(self, text, making, key, count):
        bad = ("slip", "endless")
        sign = plain_conducts.remembered(lambda value: plain_conducts.conduct(text, making, value, bad, key))
        least = plain_conducts.least_sizes(sign, size_of, plain_conducts.starts, plain_conducts.grown, key, 60)
        self.assertEqual(len(least), count)

    def test_errors_in_order(self):
        many = Program("def f(y):\n  for y in some(y)[:1]:\n    f(y[-1])")
        shape = Shape.nested(Shape.texts(1))
        with self.assertRaises(TooMany):
            table(many, shape, key="ab")
        for at, thing in enumerate(NO_FATES):
            with self.assertRaises(BadFate) as caught:
                table(many, shape, key="ab", bad=[*KINDS[:at % 3], thing, None])
            self.assertEqual(caught.exception.at, at % 3)

    def test_defaults_and_names(self):
        walk = Program("def f(v):\n  for x in v:\n    if key = x or nothing x:\n      refuse\n    for y in [x]:\n      f(y)")
        self.assertEqual(table(walk, Shape.every()), table(walk, Shape.every(), bad=["slip", "endless"], key=""))
        told = table(key="ab", bad=["refuse"], shape=Shape.texts(1), program=walk)
        self.assertEqual(told, table(walk, Shape.texts(1), bad=("refuse",), key="ab"))
        self.assertNotEqual(len(told), len(table(walk, Shape.texts(1), bad=["refuse"])))

    def test_what_is_returned_is_new(self):
        program, shape, bad = Program("def f(v):\n  for x in v:\n    if list x:\n      f(x)"), Shape.lists(Shape.texts()), ["slip"]
        one = table(program, shape, bad=bad)
        self.assertFalse(has_twice(one))
        shown = repr(one)
        spoil(one)
        bad.append("fail")
        self.assertEqual(repr(table(program, shape, bad=["slip"])), shown)
        self.assertEqual(bad, ["slip", "fail"])
        changed = shape
        changed |= Shape.nested(Shape.nothing())
        self.assertNotEqual(repr(table(program, shape, bad=["slip"])), shown)


class SamePairs(unittest.TestCase):
    """`same_pair_conduct` for pairs that differ in one thing alone."""

    def check(self, same, pairs, one=QUIET, other=QUIET, shape=Shape.every(), key="", excused=False):
        for pair in pairs:
            self.assertTrue(same_pair_conduct(one, other, shape, pair, pair, key=key, excused=excused))
            for beside in pairs:
                if pair != beside:
                    told = same_pair_conduct(one, other, shape, pair, beside, key=key, excused=excused)
                    self.assertIs(told, same, (str(one), str(other), pair, beside))

    def both_ways(self, same, pairs, program, **more):
        self.check(same, pairs, program, QUIET, **more)
        self.check(same, pairs, QUIET, program, **more)

    def test_places(self):
        for value, inner in (("ab", (0,)), ([["a"]], (0,)), ([["a"]], (0, 0))):
            self.check(False, [(value, None), (value, ()), (value, inner)])
        self.check(True, [("ab", (0,)), ("ab", (1,)), ("abc", (2,))])
        self.check(True, [([["a"]], (0,)), ([["a"]], (0, 0)), ([None], (0,))])
        self.check(False, [(None, None), ("", None), ([], None), (None, ()), ("", ()), ([], ())])

    def test_the_greatest_number_of_both_programs(self):
        program = Program("def f(v):\n  if len [v] < 2:\n    return")
        self.both_ways(False, [("ab", None), ("abc", None)], program)
        self.both_ways(True, [("abc", ()), ("abcd", ())], program)
        self.check(False, [("ab", None), ("abc", None)], shape=Shape.texts(2, 1))

    def test_the_key_in_one_of_both_programs(self):
        self.both_ways(False, [(["a"], ()), (["b"], ())], KEYED, key="a")
        self.check(True, [(["a"], ()), (["b"], ())], key="a")

    def test_how_often(self):
        loop = "def f(v):\n  return\n  for x in v:\n    if text x:\n      out(x)"
        pairs = [(["a"], (0,)), ([[]], (0,))]
        self.both_ways(False, pairs, Program(loop))
        self.both_ways(True, [(["a"], None), ([[]], None)], Program(loop))
        self.both_ways(False, [(["a", "b"], (0,)), (["a", "b", []], (2,))], Program(loop))
        self.both_ways(True, [(["a", "b"], (0,)), (["a", "b"], (1,))], Program(loop))
        again = Program(loop + "\n    if text x or list x:\n      out(x)")
        self.both_ways(False, pairs, again)
        again = Program(loop + "\n      out(x)\n    if list x:\n      out(x)")
        self.both_ways(False, pairs, again)
        again = Program(loop + "\n      out(x)\n      out(x)\n    if list x:\n      out(x)\n      out(x)")
        self.both_ways(True, pairs, again)
        again = Program("def f(v):\n  return\n  for x in v:\n    out(x)\n    for y in [x]:\n      out(y)\n      if list x:\n        out(x)"
                        .replace("list x", "list y").replace("        out(x)", "        out(y)"))
        self.both_ways(True, pairs, again)

    def test_takers_manners_and_wraps(self):
        pairs = [(["a"], (0,)), ([[]], (0,))]
        head = "def f(v):\n  return\n  for x in v:\n    if text x:\n      {}\n    else:\n      {}"
        for one, other, same in [
            ("out(x)", "out(x)", True), ("out(x)", "log(x)", False), ("out(x)", "out([x])", False), ("out([x])", "out([x])", True),
            ("out(x)", "out += [x]", True), ("out([x])", "out += [x]", False), ("out.join([x])", "out([x][0])", False),
            ("out(x)", "out = out + [x]", True), ("out.join(many(x))", "out(*many(x))", False), ("out(x)", "return", False),
            ("skip", "out += many(x)", True), ("out(x)", "out(*[x])", True), ("out(x)", "refuse", False),
        ]:
            self.both_ways(same, pairs, Program(head.format(one, other)))

    def test_how_lines_end(self):
        pairs = [(["a"], None), ([[]], None)]
        head = "def f(v):\n  return\n  for x in v:\n    if text x:\n      {}\n    else:\n      {}"
        ends = ["skip", "break", "return", "refuse", "for y in [x][1:]:\n        out(y)\n      t.join([x])"]
        for one in ends[:4]:
            for other in ends[:4]:
                self.both_ways(one == other, pairs, Program(head.format(one, other)))
        fails = head.format("{}", "t.join([x])")
        self.both_ways(False, pairs, Program(fails.format("refuse")))
        self.both_ways(False, pairs, Program(fails.format("skip")))
        endless = "def f(v):\n  return\n  for x in v:\n    if text x:\n      {}\n    else:\n      for y in [x]:\n        f(y)"
        self.both_ways(True, pairs, Program(endless.format("skip")))
        inner = "def g(w):\n  for y in [w]:\n    g(y)\ndef f(v):\n  return\n  for x in v:\n    if text x:\n      {}\n    else:\n      {}"
        for one, other, same in (("g(x)", "refuse", False), ("g(x)", "skip", False), ("g(x)", "g(x)", True), ("g(x)", "t.join([x])", False)):
            self.both_ways(same, pairs, Program(inner.format(one, other)))

    def test_failing_is_one_way(self):
        program = Program("def g(w):\n  t.join(w)\ndef f(v):\n  return\n  for x in v:\n    if text x:\n      t.join([x])\n    else:\n      g(x)")
        self.both_ways(True, [([["a"]], ()), ([[]], ())], program)
        self.both_ways(False, [([["a"]], ()), ([[None]], ())], program)

    def test_nothing_is_counted_where_the_run_ends(self):
        program = Program("def f(v):\n  return\n  for x in v:\n    if text x:\n      out(x)\n    refuse")
        self.both_ways(True, [(["a"], (0,)), ([[]], (0,)), (["a"], (0,))], program)
        program = Program("def f(v):\n  return\n  for x in v:\n    if text x:\n      out(x)\n    return")
        self.both_ways(False, [(["a"], (0,)), ([[]], (0,))], program)

    def test_slips_do_not_matter_unless_they_are_excused(self):
        program = Program("def f(v):\n  return\n  for x in v:\n    out += x")
        pairs = [(["a"], None), (["bc"], None), ([[]], None)]
        self.both_ways(True, pairs, program)
        self.check(True, pairs, QUIET, program, excused=True)
        self.check(False, pairs[:2], program, QUIET, excused=True)
        self.check(False, pairs[1:], program, QUIET, excused=True)
        self.check(True, [pairs[0], pairs[2]], program, QUIET, excused=True)

    def test_excused_outcomes_are_all_one(self):
        ends = "def f(v):\n  return\n  for x in v:\n    if nothing x:\n      refuse\n    out += x\n    if len x > 1:\n      {}"
        pairs = [(["ab", "c"], None), (["", "c"], None)]
        for deed in ("break", "return", "refuse"):
            program = Program(ends.format(deed))
            self.check(False, pairs, program, QUIET)
            self.check(False, pairs, QUIET, program, excused=True)
            self.check(True, pairs, program, QUIET, excused=True)
        hands = Program("def f(v):\n  return\n  for x in v:\n    if len x = 2:\n      log(x)")
        self.check(False, [(["ab"], (0,)), (["ab"], (0, 0))], hands, QUIET)
        self.check(True, [(["ab"], (0,)), (["ab"], (0, 0))], hands, QUIET, excused=True)
        endless = Program("def f(v):\n  return\n  for x in v:\n    if list x:\n      refuse\n    for y in [x]:\n      g(y)"
                          .replace("def f", "def g(w):\n  if text w:\n    for u in [w]:\n      g(u)\ndef f", 1))
        self.check(False, [([None], None), (["a"], None)], endless, QUIET)
        self.check(False, [([None], None), (["a"], None)], endless, QUIET, excused=True)
        both = Program("def g(w):\n  for u in [w]:\n    g(u)\ndef f(v):\n  return\n  for x in v:\n    if text x:\n      if len x = 2:\n"
                       "        return\n    else:\n      for y in [x]:\n        g(y)")
        self.check(False, [(["ab"], None), ([None], None)], both, QUIET)
        self.check(False, [(["ab"], None), ([None], None)], QUIET, both, excused=True)
        self.check(True, [(["ab"], None), ([None], None)], both, QUIET, excused=True)

    def test_blocks_with_the_place_itself(self):
        program = Program("def f(v):\n  if text v:\n    out(v)\n  out(v)")
        self.both_ways(False, [("ab", ()), ("ab", None)], program)
        self.both_ways(True, [("ab", ()), ("cde", ())], program)

    def test_defaults_and_names(self):
        loop = Program("def f(v):\n  for x in v:\n    if key = x:\n      out += x")
        told = same_pair_conduct(loop, QUIET, Shape.every(), (["ab"], (0,)), (["cd"], (0,)))
        self.assertTrue(told)
        told = same_pair_conduct(
            excused=True, key="ab", beside=(["cd"], (0,)), pair=(["ab"], (0,)), shape=Shape.every(), other=QUIET, one=loop,
        )
        self.assertFalse(told)

    def test_second_opinion(self):
        rng = random.Random(73)
        told = [0, 0]
        for number in range(70):
            text = made_up.right_program(rng)
            beside = made_up.right_program(rng) if number % 3 else text
            making, key, excused = made(rng, 4), made_up.key(rng), rng.choice([True, False])
            one, other, shape = Program(text), Program(beside), plain_shapes.built(making)
            pairs = [(value, place) for value in [made_up.value(rng) for _ in range(5)]
                     for place in [None, (), rng.choice(places_of(value)), rng.choice(places_of(value))]]
            try:
                signs = [plain_conducts.pair_conduct(text, beside, making, value, place, key, excused) for value, place in pairs]
            except TooLong:
                continue
            for pair, sign in zip(pairs, signs):
                for near, second in zip(pairs, signs):
                    if rng.randrange(3) == 0:
                        same = same_pair_conduct(one, other, shape, pair, near, key=key, excused=excused)
                        self.assertIs(same, sign == second, (text, beside, making, key, excused, pair, near))
                        told[same] += 1
        self.assertGreater(min(told), 1000)


class PairTables(unittest.TestCase):
    def size(self, pair):
        return size_of(pair[0])

    def test_least_pairs(self):
        told = table_of_pairs(QUIET, QUIET, Shape.every())
        self.assertIsInstance(told, tuple)
        self.assertEqual([self.size(pair) for pair in told], [1] * 6 + [2] * 5 + [3] * 6)
        self.assertEqual(sorted(repr(pair) for pair in told[:6]),
                         ["('', ())", "('', None)", "(None, ())", "(None, None)", "([], ())", "([], None)"])
        self.assertEqual(sum(place is not None and place != () for _, place in told), 3)

    def test_second_opinion(self):
        rng = random.Random(74)
        counted = 0
        for number in range(60):
            text = made_up.right_program(rng)
            beside = made_up.right_program(rng) if number % 2 else text
            making, key, excused = made(rng, 3), made_up.key(rng), rng.choice([True, False])
            sign = plain_conducts.remembered(
                lambda pair: plain_conducts.pair_conduct(text, beside, making, *pair, key, excused))
            try:
                told = table_of_pairs(Program(text), Program(beside), plain_shapes.built(making), key=key, excused=excused)
            except TooMany as error:
                self.assertEqual(error.what, "conducts")
                continue
            if len(told) > 34:
                continue
            counted += 1
            sizes = [self.size(pair) for pair in told]
            self.assertEqual(sizes, sorted(sizes))
            least = plain_conducts.least_sizes(
                sign, self.size, plain_conducts.pair_starts, plain_conducts.grown_pairs, key, 70)
            self.assertEqual({sign(pair): self.size(pair) for pair in told}, least, (text, beside, making, key, excused))
            self.assertEqual(len(told), len(least))
            self.assertTrue(all(place is None or place in places_of(value) for value, place in told))
        self.assertGreater(counted, 8)

    def test_places_of_letters_that_are_put_behind(self):
        for text, making in [
            ("def f(v):\n  if text v and v:\n    out(v[-1])", ("texts", 2, 2)),
            ("def f(v):\n  if text v and len v > 2:\n    out(v[-1])\n    log(v[0])", ("nothing",)),
            ("def f(v):\n  for x in v[1:]:\n    out(x)", ("texts", 2, 1)),
        ]:
            program = Program(text)
            told = table_of_pairs(program, program, plain_shapes.built(making))
            sign = plain_conducts.remembered(lambda pair: plain_conducts.pair_conduct(text, text, making, *pair, "", False))
            least = plain_conducts.least_sizes(
                sign, self.size, plain_conducts.pair_starts, plain_conducts.grown_pairs, "", 70)
            self.assertEqual({sign(pair): self.size(pair) for pair in told}, least)
            self.assertEqual(len(told), len(least))
        program = Program("def f(v):\n  if text v and len v > 2:\n    out(v[-1])")
        last = [(value, place) for value, place in table_of_pairs(program, QUIET, Shape.texts())
                if isinstance(value, str) and len(value) > 2 and place == (len(value) - 1,)]
        self.assertEqual([size_of(value) for value, _ in last], [4])

    def test_seventy_conducts_are_not_too_many(self):
        for text, making, key, count in [
            ("def main(y):\n  if key = y:\n    main(y[0])", ("texts", 3, None), "a", 70),
            ("def f(w):\n  for x in w[:1]:\n    log.join(x)", ("texts", 3, None), "abc", 71),
        ]:
            program, shape = Program(text), plain_shapes.built(making)
            if count == 70:
                self.assertEqual(len(table_of_pairs(program, program, shape, key=key)), 70)
            else:
                with self.assertRaises(TooMany) as caught:
                    table_of_pairs(program, program, shape, key=key)
                self.assertEqual(caught.exception.what, "conducts")
            sign = plain_conducts.remembered(lambda pair: plain_conducts.pair_conduct(text, text, making, *pair, key, False))
            least = plain_conducts.least_sizes(
                sign, self.size, plain_conducts.pair_starts, plain_conducts.grown_pairs, key, 80)
            self.assertEqual(len(least), count)

    def test_excused(self):
        slips = Program("def f(v):\n  for x in v:\n    out(x)\n    if text x:\n      out(x)\n      log += x\n      return")
        plain = len(table_of_pairs(slips, QUIET, Shape.every()))
        self.assertEqual(plain, len(table_of_pairs(slips, QUIET, Shape.every(), excused=False)))
        self.assertNotEqual(plain, len(table_of_pairs(slips, QUIET, Shape.every(), excused=True)))
        self.assertEqual(len(table_of_pairs(QUIET, slips, Shape.every(), excused=True)), plain)

    def test_what_is_returned_is_new(self):
        one = table_of_pairs(EXAMPLE, QUIET, Shape.lists(Shape.texts()))
        self.assertFalse(has_twice(one))
        shown = repr(one)
        other = table_of_pairs(EXAMPLE, QUIET, Shape.lists(Shape.texts()))
        self.assertFalse(shares_list(one, other))
        spoil(one)
        self.assertEqual(repr(other), shown)

    def test_arguments_by_name(self):
        told = table_of_pairs(excused=True, key="a", shape=Shape.texts(1), other=QUIET, one=KEYED)
        self.assertEqual(told, table_of_pairs(KEYED, QUIET, Shape.texts(1), key="a", excused=True))


if __name__ == "__main__":
    unittest.main()

"""Programs: what is one, the line of the error, names, spots and marks."""

import random
import time
import unittest

from textorlist.errors import BadProgram, BadSpot, TooMany
from textorlist.programs import Program
from tests import made_up
from tests.plain_programs import KEPT, is_program, row_of, wrong_line
from tests.samples import nested

FLAT = "def flat(v):\n  for x in v:\n    if list x:\n      flat(x)\n    else:\n      out(x)"
BOTH = "def both(w):\n  out += w\n  log(w)\ndef main(v):\n  for x in many(v):\n    both([x])"

TESTS = [
    "text v", "list v", "nothing v", "v", "key = v", "key in v", "key in [v]", "key in many(v)", "key in some(v)",
    "len v = 0", "len [v] != 1", "len many(v) < 2", "len some(v) <= 3", "len v > 0", "len v >= 1", "not v", "not not v",
    "(v)", "((v))", "not (v)", "(not v)", "v or v", "v and v", "v or v and v", "(v or v) and v", "not v and not text v",
    "not (v or (v and not list v))", "v and v and v or v or v", "not(not(v))", "((((v))))", "not not not not v",
]
NO_TESTS = [
    "", "w", "not", "and", "or", "()", "v v", "v and", "or v", "v or or v", "v and or v", "v not v", "(v", "v)", "(v))", "((v)",
    ") v (", "(v) (v)", "v (v)", "(v) v", "not and v", "text", "list", "nothing", "text w", "text [v]", "text many(v)",
    "many(v)", "[v]", "some(v)", "key", "key = [v]", "key = w", "key == v", "key != v", "key in", "key in w",
    "key in [w]", "key in v[0]", "v = key", "v in key", "len", "len v", "len v 1", "len v =", "len = 1", "len < 2", "len v == 1", "len v = 4",
    "len v = 00", "len v = 01", "len v = 10", "len v = v", "len v ! = 1", "len v < = 1", "len v = - 1", "len text v = 1",
    "1 = len v", "len (v) = 1", "len v = 1 = 1", "v:", ": v", "v[0]", "*v", "not = v", "v, v", "v;", "V", "v == v", "out(v)",
]
# Lines in `def f(v):`, where `w` is another variable, `g` an earlier function and `t` a taker.
LINES = [
    "out(v)", "out([v])", "out(many(v))", "out(v[0])", "out([v][0])", "out(many(v)[-1])", "out(some(v)[0])", "out(*v)",
    "out(*[v])", "out(*many(v))", "out(*some(v))", "out += v", "out += [v]", "out += many(v)", "out += some(v)",
    "out = out + v", "out = out + some(v)", "out.join(v)", "out.join(some(v))", "t(v)", "g(v)", "g([v])", "g(many(v))",
    "g(v[0])", "g(some(v)[-1])", "g(*v)", "f(v[0])", "f([v][0])", "f(many(v)[-1])", "f(some(v)[0])", "f(*v)", "f(*some(v))",
    "return", "refuse", "abcdefgh(v)", "out ( v )", "out(v)   ", "out+=v", "out=out+v", "out . join ( v )", "out(v [ - 1 ])",
    "out(* v)", "out( [v] [ -1 ] )",
]
NO_LINES = [
    "", "  ", "v", "out", "out()", "out(w)", "out(x)", "out(out)", "out([w])", "out(some(v))", "out(some(v))[0]", "out(v)[0]",
    "out(v", "out v", "out(v))", "out(v) return", "return return", "return v", "return out(v)", "out(v[1])", "out(v[00])",
    "out(v[-0])", "out(v[+1])", "out(v[-2])", "out(v[0][0])", "out(v[:1])", "out(v[1:])", "out(v[])", "out([[v]])",
    "out(many([v]))", "out(many v)", "out(**v)", "out(*v[0])", "out(* *v)", "out((v))", "out(v, v)", "out(not v)", "out(text v)",
    "out('a')", "out(1)", "out(key)", "out += out", "out += v[0]", "out += *v", "out += w", "out + = v", "out +=", "out =+ v",
    "out = v", "out = out", "out = out + v[0]", "out = t + v", "out = v + out", "out = out + v + v", "out == out + v",
    "out.join(v[0])", "out.join(*v)", "out.join", "out.join()", "out.out(v)", "out.many(v)", "out join(v)", "join(v)",
    "out.join(v).join(v)", "v(v)", "v += v", "v = v + v", "v.join(v)", "w(v)", "w += v", "g += v", "g = g + v", "g.join(v)", "g",
    "f += v", "f.join(v)", "f(v)", "f([v])", "f(many(v))", "f(some(v))", "g(some(v))", "abcdefghi(v)", "Out(v)", "o_t(v)",
    "out1(v)", "1(v)", "skip", "break", "pass", "continue", "def h(v):", "def h(v): return", "else:", "if v: return",
    "for x in v: return", "many(v)", "some(v)", "list(v)", "len(v)", "text v", "key(v)", "in(v)", "not(v)", "if(v)", "skip(v)",
    "out(v)\t", "\tout(v)", "out\t(v)", "out(v);", "out(v):", "out(v) # more", "out!(v)", "out -= v", "out(v[0)]", "out[v]",
    "out([v)", "out(v])", "out{v}", "out([v)[0])", "out(some[v][0])", "out(some(v)[0]", "out(v) out(v)", "out = out + v out",
]
HEADS = [
    "for x in v:", "for x in [v]:", "for x in many(v):", "for x in some(v):", "for x in v[:1]:", "for x in some(v)[1:]:",
    "for v in v:", "for w in v:", "for x in v [ : 1 ] :", "for x in[v][1:]:", "for abcdefgh in v:",
]
NO_HEADS = [
    "for x in v", "for x in v::", "for x in w:", "for x in x:", "for x v:", "for in v:", "for x of v:", "for x in:", "for f in v:",
    "for g in v:", "for t in v:", "for key in v:", "for many in v:", "for x in v[0]:", "for x in v[-1]:", "for x in v[:]:",
    "for x in v[:2]:", "for x in v[2:]:", "for x in v[1:1]:", "for x in v[:1][1:]:", "for x in *v:", "for x, y in v:",
    "for (x) in v:", "for x in (v):", "for abcdefghi in v:", "for x in many(v:", "for x in v[0:1]:", "for X in v:", "for 1 in v:",
    "for x in v[:01]:", "for x in v: v", "forx in v:", "for x inv:", "else :", "else", "if:", "if v", "ifv:", "elif v:", "while v:",
]
DEFS = ["def h(v):", "def h(w):", "def  h ( v ) :", "def h(x):", "def abcdefgh(hgfedcba):", "def h(v):  "]
NO_DEFS = [
    "def h:", "def h():", "def h(v)", "def (v):", "def h(v, w):", "def h v:", "def h(v):return", "def f(v):", "def g(v):",
    "def t(v):", "def v(v):", "def v(w):", "def w(v):", "def h(h):", "def h(f):", "def h(t):", "def h(g):", "def h(key):",
    "def key(v):", "def in(v):", "def abcdefghi(v):", "def h(abcdefghi):", "def h([v]):", "def h(*v):", "def H(v):", "defh(v):",
    "def def(v):", "def h1(v):", "def h(1):", "def h(v)::", "def h(v):\t", "h(v):", "if v:", "for x in v:", "return", "out(v)",
    "else:", "def out(v):", "def h(out):",
]
AHEAD = "def g(w):\n  t += w\n"


def inside(line):
    """A program, if the line is right there; it is the line 3."""
    return f"{AHEAD}def f(v):\n  {line}"


class Case(unittest.TestCase):
    def wrong(self, text, line):
        with self.assertRaises(BadProgram) as held:
            Program(text)
        self.assertEqual(held.exception.line, line, text)
        self.assertIs(type(held.exception.line), int)

    def right(self, text):
        self.assertIsInstance(Program(text), Program)


class Lines(Case):
    def test_examples_of_the_document(self):
        self.right(FLAT)
        self.right(BOTH)
        self.wrong(FLAT.replace("flat(x)", "flat(v)"), 3)
        self.wrong(FLAT.replace("flat(x)", "flat([x])"), 3)
        for argument in ("x", "[x]", "many(x)", "x[0]", "many(x)[-1]", "*some(x)"):
            self.right(BOTH.replace("[x]", argument))
        self.right("def f(v):\n  out(some(v)[0])")
        self.wrong("def f(v):\n  out(some(v))", 1)

    def test_no_strings(self):
        for thing in (None, True, False, 0, -1, 10 ** 29, [], ["def f(v):", "  return"], (), ("def f(v):\n  return",), nested("a", 13)):
            self.wrong(thing, -1)

    def test_few_lines(self):
        self.wrong("", 0)
        self.wrong(" ", 0)
        self.wrong("\n", 0)
        self.wrong("\ndef f(v):\n  return", 0)
        self.wrong("def f(v):", 1)
        self.wrong("def f(v):\n", 1)
        self.wrong("def f(v):\n  ", 1)
        self.wrong("def f(v):\n  if v:", 2)
        self.wrong("def f(v):\n  if v:\n", 2)
        self.wrong("def f(v):\n  for x in v:\n    if x:", 3)
        self.wrong("def f(v):\n  return\ndef g(v):", 3)
        self.wrong("def f(v):\n  if v:\n    return\n  else:", 4)

    def test_line_feed_at_the_end(self):
        for text in (FLAT, BOTH):
            self.wrong(text + "\n", len(text.split("\n")))
            self.wrong(text + "\n  ", len(text.split("\n")))
            self.wrong("\n" + text, 0)

    def test_lines_without_tokens(self):
        for text in (FLAT, BOTH):
            lines = text.split("\n")
            for at in range(len(lines) + 1):
                for blank in ("", " ", "  ", "    ", "      "):
                    self.wrong("\n".join(lines[:at] + [blank] + lines[at:]), at)

    def test_lines(self):
        for line in LINES:
            self.right(inside(line))
        for line in NO_LINES:
            self.wrong(inside(line), 3)
            self.wrong(inside(line) + "\n  return", 3)
            self.wrong(inside("return") + f"\n  {line}\n wrong, too", 4)

    def test_heads(self):
        for head in HEADS:
            self.wrong(inside(head), 4)
            self.right(inside(f"{head}\n    return"))
            self.wrong(inside(f"{head}\n  return"), 4)
        for head in NO_HEADS:
            self.wrong(inside(head), 3)
            self.wrong(inside(f"{head}\n    return"), 3)

    def test_defs(self):
        ahead = AHEAD + "def f(v):\n  out(v)\n"
        for line in DEFS:
            self.wrong(ahead + line, 5)
            self.right(ahead + line + "\n  return")
        for line in NO_DEFS:
            self.wrong(ahead + line, 4)
            self.wrong(ahead + line + "\n  return", 4)

    def test_tests(self):
        for test in TESTS:
            self.right(inside(f"if {test}:\n    return"))
            self.right(inside(f"if {test.replace(' ', '   ')} :  \n    return"))
            self.right(inside(f"for x in v:\n    if {test.replace('v', 'x')}:\n      skip"))
        for test in NO_TESTS:
            self.wrong(inside(f"if {test}:"), 3)
            self.wrong(inside(f"if {test}:\n    return"), 3)

    def test_somewhat_deeper_tests(self):
        for test in ("(" * 30 + "v" + ")" * 30, "not " * 30 + "v", "(not " * 20 + "v" + ")" * 20):
            self.right(inside(f"if {test}:\n    return"))
            self.wrong(inside(f"if {test}):\n    return"), 3)

    def test_kept_words(self):
        for word in KEPT:
            self.wrong(f"def {word}(v):\n  return", 0)
            self.wrong(f"def f({word}):\n  return", 0)
            self.wrong(f"def f(v):\n  for {word} in v:\n    return", 1)
            for line in (f"{word}(v)", f"{word} += v", f"{word} = {word} + v", f"{word}.join(v)"):
                self.wrong(f"def f(v):\n  {line}", 1)

    def test_names_that_begin_like_kept_words(self):
        self.right("def ina(defa):\n  for form in defa:\n    noto += form\n    iff(form)\n    lens.join(form)")
        self.right("def f(lenv):\n  if lenv and text lenv or len lenv = 1:\n    return")

    def test_other_characters(self):
        for code in list(range(32, 127)) + [9]:
            for at in (2, 5, 6, 8):
                text = "def f(v):\n  out(v)"
                spoilt = text[:10 + at] + chr(code) + text[10 + at:]
                line = wrong_line(spoilt)
                if line is None:
                    self.right(spoilt)
                else:
                    self.wrong(spoilt, 1)


class Blocks(Case):
    def test_spaces_ahead(self):
        lines = FLAT.split("\n")
        for at in range(len(lines)):
            for spaces in (1, 2, 3, 4):
                self.wrong("\n".join(lines[:at] + [" " * spaces + lines[at]] + lines[at + 1:]), at)

    def test_depth_of_each_line(self):
        ahead = "def f(v):\n  for x in v:\n    if x:\n      out(x)\n"
        for spaces in range(10):
            line = " " * spaces
            for last, depths in [
                ("out(x)", (4, 6)), ("out(v)", (2,)), ("return", (2, 4, 6)), ("skip", (4, 6)), ("def g(v):\n  return", (0,)),
                ("else:\n      return", (4,)), ("refuse", (2, 4, 6)),
            ]:
                if spaces in depths:
                    self.right(ahead + line + last)
                else:
                    self.wrong(ahead + line + last, 4)

    def test_a_block_has_a_line(self):
        for head in ("for x in v:", "if v:"):
            for line in ("  return", "def g(v):\n  return", "  out(v)", "  else:\n    return"):
                self.wrong(f"def f(v):\n  {head}\n{line}", 2)
        self.wrong("def f(v):\ndef g(v):\n  return", 1)
        self.wrong("def f(v):\n  if v:\n    return\n  else:\n  return", 4)

    def test_else(self):
        self.right("def f(v):\n  if v:\n    return\n  else:\n    return")
        self.right("def f(v):\n  if v:\n    if v:\n      return\n    else:\n      return\n  else:\n    return")
        self.right("def f(v):\n  if v:\n    if v:\n      return\n  else:\n    return")
        self.right("def f(v):\n  if v:\n    for x in v:\n      return\n  else:\n    return")
        self.right("def f(v):\n  if v:\n    return\n  else:\n    if v:\n      return\n    else:\n      return")
        self.right("def f(v):\n  if v:\n    return\n  if v:\n    return\n  else:\n    return")
        self.wrong("def f(v):\n  else:\n    return", 1)
        self.wrong("def f(v):\n  if v:\n    return\n  return\n  else:\n    return", 4)
        self.wrong("def f(v):\n  for x in v:\n    return\n  else:\n    return", 3)
        self.wrong("def f(v):\n  for x in v:\n    if x:\n      return\n  else:\n    return", 4)
        self.wrong("def f(v):\n  if v:\n    return\n    else:\n      return", 3)
        self.wrong("def f(v):\n  if v:\n    return\nelse:\n  return", 3)
        self.wrong("def f(v):\n  if v:\n    return\ndef g(v):\n  else:\n    return", 4)

    def test_else_only_once(self):
        once = "def f(v):\n  if v:\n    return\n  else:\n    return"
        self.wrong(once + "\n  else:\n    return", 5)
        self.wrong(once + "\n  return\n  else:\n    return", 6)
        self.wrong("def f(v):\n  if v:\n    if v:\n      return\n    else:\n      return\n    else:\n      return", 6)

    def test_loops_and_cuts(self):
        for cut in ("skip", "break"):
            self.right(f"def f(v):\n  for x in v:\n    {cut}\n    out(x)\n    {cut}")
            self.right(f"def f(v):\n  for x in v:\n    if x:\n      {cut}\n    else:\n      {cut}")
            self.wrong(f"def f(v):\n  {cut}", 1)
            self.wrong(f"def f(v):\n  if v:\n    {cut}", 2)
            self.wrong(f"def f(v):\n  for x in v:\n    return\n  {cut}", 3)
            self.wrong(f"def f(v):\n  for x in v:\n    return\ndef g(v):\n  {cut}", 4)
        for cut in ("return", "refuse"):
            self.right(f"def f(v):\n  {cut}\n  {cut}\n  for x in v:\n    {cut}\n    if x:\n      {cut}\n      out(x)\n    {cut}")

    def test_variables(self):
        self.right("def f(v):\n  for v in v:\n    for v in v:\n      out(v)\n    out(v)\n  out(v)")
        self.right("def f(v):\n  for x in v:\n    out(x)\n  for x in v:\n    out(x)\ndef g(x):\n  for v in x:\n    out(v)")
        self.wrong("def f(v):\n  for x in v:\n    out(v)", 2)
        self.wrong("def f(v):\n  for x in v:\n    out(x)\n  out(x)", 3)
        self.wrong("def f(v):\n  for x in v:\n    for y in v:\n      out(y)", 2)
        self.wrong("def f(v):\n  for x in v:\n    if v:\n      out(x)", 2)
        self.wrong("def f(v):\n  for x in v:\n    return\n  if x:\n    return", 3)
        self.wrong("def f(v):\n  return\ndef g(w):\n  out(v)", 3)


class Names(Case):
    def test_one_meaning_in_the_whole_program(self):
        self.wrong("def f(f):\n  return", 0)
        self.wrong("def f(v):\n  out(v)\ndef out(v):\n  return", 2)
        self.wrong("def f(v):\n  out(v)\ndef g(out):\n  return", 2)
        self.wrong("def f(v):\n  out(v)\n  for out in v:\n    return", 2)
        self.wrong("def f(v):\n  return\ndef v(w):\n  return", 2)
        self.wrong("def f(v):\n  return\ndef g(f):\n  return", 2)
        self.wrong("def f(v):\n  return\ndef f(v):\n  return", 2)
        self.wrong("def f(v):\n  for f in v:\n    return", 1)
        self.wrong("def f(v):\n  for x in v:\n    x(x)", 2)
        self.wrong("def f(v):\n  for x in v:\n    v(x)", 2)
        self.wrong("def f(v):\n  for x in v:\n    return\n  x += v", 3)
        self.wrong("def f(v):\n  g(v)\ndef g(v):\n  return", 2)
        self.wrong("def f(v):\n  return\ndef g(v):\n  f += v", 3)

    def test_each_way_to_settle_a_taker(self):
        for line in ("g(v)", "g += v", "g = g + v", "g.join(v)", "g(*v)", "g(v[0])"):
            self.right(f"def f(v):\n  {line}\n  g(v)\n  g += v\n  g = g + v\n  g.join(v)")
            self.wrong(f"def f(v):\n  {line}\ndef g(v):\n  return", 2)
            self.wrong(f"def f(v):\n  {line}\ndef h(g):\n  return", 2)

    def test_functions_are_called_later_only(self):
        self.right("def f(v):\n  return\ndef g(v):\n  f(v)\ndef h(v):\n  f(v)\n  g([v])")
        self.wrong("def f(v):\n  return\ndef g(v):\n  h(v)\ndef h(v):\n  f(v)", 4)

    def test_functions_call_themselves_with_less(self):
        for call in ("f(v[0])", "f(v[-1])", "f(*v)", "f([v][0])", "f(many(v)[-1])", "f(*some(v))"):
            self.right(f"def f(v):\n  {call}")
            self.right(f"def f(v):\n  if v:\n    {call}")
            self.right(f"def f(v):\n  for v in v:\n    if v:\n      {call}")
        for call in ("f(v)", "f([v])", "f(many(v))"):
            self.wrong(f"def f(v):\n  {call}", 1)
            self.wrong(f"def f(v):\n  if v:\n    if v:\n      {call}", 3)
        for head in ("for x in v:", "for x in [v]:", "for x in v[:1]:", "for x in some(v)[1:]:"):
            self.right(f"def f(v):\n  {head}\n    f(x)")
            self.right(f"def f(v):\n  {head}\n    if x:\n      f(x)")
            self.wrong(f"def f(v):\n  {head}\n    f([x])", 2)
            self.wrong(f"def f(v):\n  {head}\n    f(many(x))", 2)
            self.wrong(f"def f(v):\n  {head}\n    f(x)\n  f(v)", 3)

    def test_told(self):
        program = Program(BOTH)
        self.assertEqual(program.names(), ["both", "main"])
        self.assertEqual(program.takers(), ["log", "out"])
        self.assertEqual(program.main, "main")
        self.assertEqual(len(program), 6)
        program = Program(FLAT)
        self.assertEqual((program.names(), program.takers(), program.main, len(program)), (["flat"], ["out"], "flat", 6))
        program = Program("def z(v):\n  z(*v)\ndef a(v):\n  z(v)\ndef m(w):\n  refuse")
        self.assertEqual((program.names(), program.takers(), program.main, len(program)), (["z", "a", "m"], [], "m", 6))
        program = Program("def f(v):\n  z(v)\n  b += v\n  a.join(v)\n  z(v)\n  ab = ab + v\n  b(*v)")
        self.assertEqual(program.takers(), ["a", "ab", "b", "z"])

    def test_told_anew(self):
        program = Program(BOTH)
        for asked in (program.names, program.takers, program.spots):
            before = list(asked())
            asked().append("spoilt")
            asked().clear()
            self.assertEqual(asked(), before)

    def test_by_name(self):
        self.assertEqual(str(Program(text=FLAT)), str(Program(FLAT)))

    def test_class_values(self):
        self.assertEqual((Program.LINES, Program.FUNCTIONS, Program.SPOTS), (30, 4, 12))


class Strings(Case):
    def test_str(self):
        self.assertEqual(str(Program("def f(v):\n  return")), "def f ( v ) :\n  return")
        self.assertEqual(
            str(Program("def   f(v) :  \n  for x in many(v)[:1]:\n    out+=[x]   \n    out( x[-1] )\n    if not(key in x):\n      break")),
            "def f ( v ) :\n  for x in many ( v ) [ : 1 ] :\n    out += [ x ]\n    out ( x [ - 1 ] )\n"
            "    if not ( key in x ) :\n      break",
        )

    def test_all_lines(self):
        for line in LINES + [f"if {test}:\n    return" for test in TESTS] + [f"{head}\n    return" for head in HEADS]:
            program = Program(inside(line))
            rows = [row_of(row) for row in inside(line).split("\n")]
            self.assertEqual(str(program), "\n".join(" " * spaces + tokens for spaces, tokens in rows))
            self.assertEqual(len(program), len(rows))
            self.assertEqual(str(Program(str(program))), str(program))

    def test_equal(self):
        self.assertIs(Program("def f(v):\n  out(v)") == Program("def  f ( v ):  \n  out( v )"), True)
        self.assertIs(Program("def f(v):\n  out(v)") != Program("def  f ( v ):  \n  out( v )"), False)
        texts = [FLAT, BOTH, FLAT.replace("out", "log"), FLAT.replace("out(x)", "out += x"), FLAT + "\n  return"]
        for at, text in enumerate(texts):
            for beside, other in enumerate(texts):
                self.assertIs(Program(text) == Program(other), at == beside)
                self.assertIs(Program(text) != Program(other), at != beside)

    def test_other_classes(self):
        program = Program(FLAT)
        for other in (None, True, 0, 6, FLAT, str(program), [], (), ["flat"], object()):
            self.assertIs(program == other, False)
            self.assertIs(other == program, False)
            self.assertIs(program != other, True)


class Many(Case):
    def functions(self, many, line="out(v)"):
        return "\n".join(f"def f{'abcdefg'[at]}(v):\n  {line}" for at in range(many))

    def spotted(self, many):
        return "def f(v):" + "\n  out(v)" * many

    def too_many(self, text, what):
        with self.assertRaises(TooMany) as held:
            Program(text)
        self.assertEqual(held.exception.what, what)

    def test_functions(self):
        for many in (1, 2, 3, 4):
            self.assertEqual(len(Program(self.functions(many)).names()), many)
        for many in (5, 6, 7):
            self.too_many(self.functions(many), "functions")

    def test_spots(self):
        for many in (1, 11, 12):
            self.assertEqual(len(Program(self.spotted(many)).spots()), many)
        for many in (13, 14, 20, 29):
            self.too_many(self.spotted(many), "spots")

    def test_spots_in_tests(self):
        text = "def f(v):\n  if " + " or ".join(["key in v"] * 11) + ":\n    out(v)"
        self.assertEqual(len(Program(text).spots()), 12)
        self.too_many(text + "\n    out(*v)", "spots")
        self.assertEqual(len(Program(text + "\n  if v and text v and key = v:\n    return").spots()), 12)

    def test_what_is_no_spot_does_not_count(self):
        text = "def f(v):\n  for x in v:" + "\n    f(x)" * 20 + "\n    out(x)" * 7
        self.assertEqual(len(Program(text).spots()), 8)

    def test_functions_come_first(self):
        text = self.functions(5) + "\n  out(v)" * 10
        self.too_many(text, "functions")

    def test_wrong_lines_come_first(self):
        self.wrong(self.functions(5) + "\n  wrong", 10)
        self.wrong(self.functions(5) + "\ndef g(v):", 11)
        self.wrong(self.spotted(20) + "\n  wrong", 21)
        self.wrong(self.spotted(20) + "\n  if v:", 22)
        self.wrong(self.spotted(13) + "\n", 14)


class Spots(Case):
    def test_examples_of_the_document(self):
        self.assertEqual(Program(FLAT).spots(), [(1, "plain"), (5, "plain")])
        self.assertEqual(Program(BOTH).spots(), [(1, "plain"), (2, "plain"), (4, "many"), (5, "wrap")])

    def test_each_line(self):
        for form, e in (("plain", "v"), ("wrap", "[v]"), ("many", "many(v)"), ("some", "some(v)")):
            for line in (
                f"for x in {e}:\n    return", f"for x in {e}[:1]:\n    return", f"for x in {e}[1:]:\n    return", f"out({e}[0])",
                f"out({e}[-1])", f"out(*{e})", f"out += {e}", f"out = out + {e}", f"out.join({e})", f"g({e}[0])", f"g(*{e})",
                f"f({e}[-1])", f"f(*{e})", f"if key in {e}:\n    return", f"if len {e} >= 2:\n    return",
                f"if not (v or text v and len {e} = 0):\n    return",
            ):
                self.assertEqual(Program(f"def g(w):\n  return\ndef f(v):\n  {line}").spots(), [(3, form)])
            if form != "some":
                for line in (f"out({e})", f"g({e})"):
                    self.assertEqual(Program(f"def g(w):\n  return\ndef f(v):\n  {line}").spots(), [(3, form)])

    def test_no_spots(self):
        for line in ("if v:", "if text v or list v or nothing v:", "if key = v:", "if not v:"):
            self.assertEqual(Program(f"def f(v):\n  {line}\n    return").spots(), [])
        self.assertEqual(Program("def f(v):\n  for x in v:\n    f(x)").spots(), [(1, "plain")])
        self.assertEqual(Program("def f(v):\n  return\ndef g(v):\n  for x in v:\n    f(x)").spots(), [(3, "plain"), (4, "plain")])

    def test_order(self):
        text = (
            "def f(v):\n  if key in v and (len many(v) = 1 or not key in [v]) or len some(v) > 2:\n    out(v)\n"
            "  else:\n    out += [v]\n  for x in some(v):\n    f(x)\n    f(x[0])\n    log(*many(x))"
        )
        self.assertEqual(Program(text).spots(), [
            (1, "plain"), (1, "many"), (1, "wrap"), (1, "some"), (2, "plain"), (4, "wrap"), (5, "some"), (7, "plain"), (8, "many"),
        ])


class Marks(Case):
    TEXT = "def g(w):\n  out(w)\n  out([w])\ndef f(v):\n  for v in v[:1]:\n    if key in v or len v = 1:\n      g(v)\n      f(v)\n  f(v[0])"
    PLAIN = (0, 2, 3, 4, 5, 6)

    def test_each_spot(self):
        program = Program(self.TEXT)
        self.assertEqual([at for at, (_, form) in enumerate(program.spots()) if form == "plain"], list(self.PLAIN))
        before = str(program)
        for spot in self.PLAIN:
            for mark in ("many", "wrap"):
                made = program.marked([(spot, mark)])
                self.assertIsInstance(made, Program)
                expected = program.spots()
                expected[spot] = (expected[spot][0], mark)
                self.assertEqual(made.spots(), expected)
                self.assertEqual((made.names(), made.takers(), made.main), (["g", "f"], ["out"], "f"))
        self.assertEqual(str(program), before)

    def test_text(self):
        made = Program(self.TEXT).marked([(0, "wrap"), (2, "many"), (3, "wrap"), (4, "many"), (5, "wrap"), (6, "many")])
        self.assertEqual(made, Program(
            "def g(w):\n  out([w])\n  out([w])\ndef f(v):\n  for v in many(v)[:1]:\n    if key in [v] or len many(v) = 1:\n"
            "      g([v])\n      f(v)\n  f(many(v)[0])"
        ))

    def test_any_order_lists_and_tuples(self):
        program = Program(self.TEXT)
        pairs = [(0, "many"), (3, "wrap"), (4, "wrap"), (6, "many")]
        made = program.marked(pairs)
        rng = random.Random(81)
        for _ in range(20):
            mend = rng.sample(pairs, 4)
            given = list(mend)
            self.assertEqual(program.marked(mend), made)
            self.assertEqual(program.marked(tuple(mend)), made)
            self.assertEqual(program.marked(mend=mend), made)
            self.assertEqual(mend, given)

    def test_no_marks(self):
        for mend in ([], ()):
            made = Program(self.TEXT).marked(mend)
            self.assertEqual(made, Program(self.TEXT))

    def test_marks_on_marks(self):
        made = Program(self.TEXT).marked([(0, "many")]).marked([(2, "wrap")])
        self.assertEqual(made, Program(self.TEXT).marked([(0, "many"), (2, "wrap")]))
        with self.assertRaises(BadSpot):
            made.marked([(0, "many")])

    def test_every_form_of_line(self):
        for line in (
            "out(v)", "out(v[0])", "out(v[-1])", "out(*v)", "out += v", "out = out + v", "out.join(v)", "g(v)", "g(*v)", "f(v[0])",
            "for x in v:\n    return", "for x in v[:1]:\n    return", "for x in v[1:]:\n    return", "if key in v:\n    return",
            "if len v < 2:\n    return",
        ):
            for mark, e in (("many", "many(v)"), ("wrap", "[v]")):
                ahead, behind = line.rsplit("v", 1)
                text = f"def g(w):\n  return\ndef f(v):\n  {line}"
                self.assertEqual(
                    Program(text).marked([(0, mark)]), Program(f"def g(w):\n  return\ndef f(v):\n  {ahead}{e}{behind}"),
                )

    def test_several_spots_in_a_line(self):
        text = "def f(v):\n  if len [v] = 1 and (key in v or not len some(v) > 0 and len v < 3) or key in many(v) and key in v:\n    return"
        program = Program(text)
        self.assertEqual(program.spots(), [(1, "wrap"), (1, "plain"), (1, "some"), (1, "plain"), (1, "many"), (1, "plain")])
        for spot, ahead in ((1, "(key in "), (3, "and len "), (5, "and key in ")):
            for mark, e in (("many", "many(v)"), ("wrap", "[v]")):
                self.assertEqual(program.marked([(spot, mark)]), Program(text.replace(f"{ahead}v", f"{ahead}{e}")))
        for spot in (0, 2, 4, 6):
            with self.assertRaises(BadSpot):
                program.marked([(spot, "many")])

    def test_longer_than_passed_strings_may_be(self):
        text = "def f(abcdefgh):" + "\n  out(abcdefgh)" * 12 + "\n  return" * 17
        made = Program(text).marked([(spot, "many") for spot in range(12)])
        self.assertEqual(made.spots(), [(spot + 1, "many") for spot in range(12)])

    def test_bad_spots(self):
        program = Program(self.TEXT)
        for spot in (
            1, 7, 8, -1, -6, 100, 10 ** 29, -10 ** 29, True, False, None, "", "0", "many", (), (0,), [], [0], [[1], ()],
            nested(0, 12),
        ):
            for mend in ([(spot, "many")], ((spot, "wrap"),), [(2, "many"), (spot, "many"), (1, "many")], [(6, "many"), (spot, "many"), (-1, "many")]):
                with self.assertRaises(BadSpot) as held:
                    program.marked(mend)
                self.assertEqual(repr(held.exception.spot), repr(spot))

    def test_first_bad_spot(self):
        for spots, first in (((9, 8), 9), ((0, 8, 9), 8), ((True, 1), True), ((2, 3, 1, None), 1), ((None, "x"), None)):
            with self.assertRaises(BadSpot) as held:
                Program(self.TEXT).marked([(spot, "many") for spot in spots])
            self.assertIs(held.exception.spot, first)


class MadeUp(Case):
    def test_lines_of_errors(self):
        rng = random.Random(82)
        wrong, right = 0, 0
        for _ in range(700):
            text = made_up.program(rng)
            self.assertTrue(is_program(text))
            for _ in range(4):
                line = wrong_line(text)
                try:
                    Program(text)
                except BadProgram as error:
                    self.assertEqual(error.line, line, text)
                    wrong += 1
                except TooMany:
                    self.assertIsNone(line, text)
                else:
                    self.assertIsNone(line, text)
                    right += 1
                text = made_up.spoilt(rng, text)
        self.assertGreater(wrong, 1000)
        self.assertGreater(right, 600)

    def test_marks(self):
        rng = random.Random(83)
        for _ in range(200):
            try:
                program = Program(made_up.program(rng))
            except TooMany:
                continue
            plain = [at for at, (_, form) in enumerate(program.spots()) if form == "plain"]
            mend = [(spot, rng.choice(["many", "wrap"])) for spot in rng.sample(plain, rng.randrange(len(plain) + 1))]
            forms = dict(mend)
            made = program.marked(mend)
            self.assertEqual(made.spots(), [(line, forms.get(at, form)) for at, (line, form) in enumerate(program.spots())])
            self.assertEqual(len(made), len(program))


class Tokens(unittest.TestCase):
    def test_where_tokens_end(self):
        for line in ("if len v=2and v:", "if len v<=3or v:", "if(v)and(v):", "if not(v):", "if len[v]!=0:", "if key in[v]:", "if v or(key=v):",
                     "for x in v[:1]:", "for x in[v][1:]:", "for x in many(v)[ 1 : ] :"):
            program = Program(f"def f(v):\n  {line}\n    return")
            self.assertEqual(len(program), 3, line)
        for line in ("out+=v", "out=out+v", "out.join(many(v))", "out(v[-1])", "out(v[ - 1 ])", "out(*some(v))", "out ( [v][0] )"):
            self.assertEqual(len(Program(f"def f(v):\n  {line}")), 2, line)

    def test_wrong_tokens(self):
        for line in (
            "out + = v", "out(V)", "out(W)", "out(M)", "out(S)", "out += V", "out(v1)", "out(1v)", "out1(v)", "out(v [ 10 ])", "out(v[00])",
            "out(v[- 11])", "out(v)\t", "\tout(v)", "out(v);", "out(_v)", "out(v_)", "Out(v)", "out(\u00e9)", "\u00e9(v)", "out(v)\r",
            "out\u3000(v)", "out\x0b(v)", "o ut(v)", "out(v v)", "out(v,v)", "out(~)", "~(v)", "out!=v", "out <= v",
        ):
            self.assert_wrong(f"def f(v):\n  {line}", 1)
        for line in ("len v < = 2", "len v ! = 2", "len v > = 2", "len v = 10", "len v = 1 0", "len v = 4", "len v == 2", "len v <> 2",
                     "len v =! 2", "len V = 2", "text V", "V", "not", "", "v and", "or v", "()", "(v", "v)", "v : v", "not and v"):
            self.assert_wrong(f"def f(v):\n  if {line}:\n    return", 1)
        for line in ("for x in V:", "for X in v:", "for x in v", "for x v:", "for in v:", "for", "for x", "if", "if:", "else", "for x in v[:2]:",
                     "for x in v[0:1]:", "for x in v[1]:", "for x y in v:"):
            self.assert_wrong(f"def f(v):\n  {line}\n    return", 1)

    def assert_wrong(self, text, line):
        with self.assertRaises(BadProgram) as caught:
            Program(text)
        self.assertEqual(caught.exception.line, line, text)


class Speed(unittest.TestCase):
    def test_many_short_programs(self):
        text = "def early(u):\n  log(u)\ndef own(v):\n  for x in v[1:]:\n    if list x:\n      return\n    else:\n      for y in [x]:\n        "
        begin = time.perf_counter()
        for last in ("own(*many(y))", "own(y)", "own([y])", "y(x)", "else:") * 2000:
            try:
                Program(text + last)
            except BadProgram as error:
                self.assertEqual(error.line, 8)
        # 10,000 texts: a small part of a second where each takes 20 microseconds.
        self.assertLess(time.perf_counter() - begin, 3)


if __name__ == "__main__":
    unittest.main()

"""Stage 6: what runs hand over is taken by functions of the caller, or collected in baskets."""

import random
import unittest

from tests import made_up
from tests.samples import has_twice, nested, shares_list, spoil
from textorlist.baskets import Basket, Trial, filled, perform
from textorlist.entries import Entries
from textorlist.errors import BadValue, NoTaker, Stopped, TextorlistError
from textorlist.programs import Program
from textorlist.runs import run

EACH = Program("def main(v):\n  for x in v:\n    out(x)\n    log += [x]\n  end([v])")
MANY = Program("def main(v):\n  for x in v:\n    if key = x:\n      refuse\n    out(x)\n    log.join(x)")
SELF = Program("def main(v):\n  for x in v:\n    out(x)\n    if text x:\n      main(x)")
QUIET = Program("def main(v):\n  if nothing v:\n    out(v)")


class Odd(Exception):
    """An error of the caller."""


class Noted:
    """Functions of a caller that note what they are called with."""

    def __init__(self):
        self.calls = []

    def under(self, taker):
        return lambda given: self.calls.append((taker, given))


def with_all(program, noted):
    return {taker: noted.under(taker) for taker in program.takers()}


class Perform(unittest.TestCase):
    def test_order_and_count(self):
        noted = Noted()
        count = perform(EACH, ["ab", ["c", None]], **with_all(EACH, noted))
        self.assertEqual(count, 5)
        self.assertEqual(noted.calls, [
            ("out", "ab"), ("log", "ab"), ("out", ["c", None]), ("log", ["c", None]), ("end", [["ab", ["c", None]]]),
        ])

    def test_torn_parts_and_both_manners(self):
        noted = Noted()
        self.assertEqual(perform(MANY, "ab", **with_all(MANY, noted)), 4)
        self.assertEqual(noted.calls, [("out", "a"), ("log", "a"), ("out", "b"), ("log", "b")])

    def test_like_runs(self):
        rng = random.Random(60)
        ended = 0
        for _ in range(300):
            program, value, key = Program(made_up.right_program(rng)), made_up.value(rng), made_up.key(rng)
            told = run(program, value, key=key)
            noted = Noted()
            uses = with_all(program, noted)
            if told:
                ended += 1
                self.assertEqual(perform(program, value, key=key, **uses), len(told.handed))
                self.assertEqual([taker for taker, _ in noted.calls], [row[0] for row in told.handed])
                for taker in uses:
                    given = [one for name, one in noted.calls if name == taker]
                    self.assertEqual(given, told.entries(taker).listed())
            else:
                with self.assertRaises(Stopped) as caught:
                    perform(program, value, key=key, **uses)
                self.assertEqual((caught.exception.way, caught.exception.line), (told.way, told.line))
                self.assertEqual(noted.calls, [])
        self.assertGreater(ended, 80)
        self.assertLess(ended, 280)

    def test_new_values(self):
        value = [["a"], ["a"], [["b"]]]
        given = []
        perform(EACH, value, out=given.append, log=given.append, end=given.append)
        self.assertFalse(has_twice(given))
        self.assertFalse(shares_list(given, value))
        self.assertEqual(value, [["a"], ["a"], [["b"]]])

    def test_changes_of_what_is_given(self):
        program = Program("def main(v):\n  out(v)\n  for x in v:\n    out(x)\n  out([v])\n  out(v)")
        seen = []

        def use(given):
            seen.append(repr(given))
            spoil(given)

        value = [["a"], "b"]
        perform(program, value, out=use)
        self.assertEqual(seen, ["[['a'], 'b']", "['a']", "'b'", "[[['a'], 'b']]", "[['a'], 'b']"])
        self.assertEqual(value, [["a"], "b"])

    def test_changes_of_the_value(self):
        value = [["a"], ["b"]]
        seen = []

        def use(given):
            seen.append(given)
            spoil(value)

        perform(EACH, value, out=use, log=use, end=use)
        self.assertEqual(seen, [["a"], ["a"], ["b"], ["b"], [[["a"], ["b"]]]])

    def test_errors_of_the_functions_go_on(self):
        for error in (Odd("why"), ValueError("why"), KeyError(1), Stopped("end", 1), NoTaker("x"), KeyboardInterrupt()):
            calls = []

            def use(given):
                calls.append(given)
                if given == "b":
                    raise error

            with self.assertRaises(type(error)) as caught:
                perform(EACH, ["a", "b", "c"], out=use, log=calls.append, end=calls.append)
            self.assertIs(caught.exception, error)
            self.assertEqual(calls, ["a", "a", "b"])

    def test_stopped(self):
        calls = []
        for program, value, key, way, line in [
            (EACH, None, "", "fail", 1),
            (MANY, ["a", "ab"], "ab", "refuse", 3),
            (MANY, ["a", ["b"], None], "", "fail", 5),
            (SELF, ["b", "a"], "", "endless", 4),
        ]:
            for uses in ({"out": calls.append, "log": calls.append, "end": calls.append}, {}):
                with self.assertRaises(Stopped) as caught:
                    perform(program, value, key=key, **uses)
                self.assertEqual((caught.exception.way, caught.exception.line), (way, line))
        self.assertEqual(calls, [])

    def test_no_taker(self):
        calls = []
        for uses, name in [
            ({}, "out"), ({"log": calls.append}, "out"), ({"out": calls.append}, "log"),
            ({"out": calls.append, "log": calls.append}, "end"), ({"Out": calls.append, "log": calls.append}, "out"),
        ]:
            with self.assertRaises(NoTaker) as caught:
                perform(EACH, ["a"], **uses)
            self.assertEqual(caught.exception.name, name)
        self.assertEqual(calls, [])

    def test_takers_that_get_nothing(self):
        calls = []
        self.assertEqual(perform(QUIET, "a"), 0)
        self.assertEqual(perform(EACH, [], end=calls.append), 1)
        self.assertEqual(perform(QUIET, None, out=calls.append, other=None), 1)
        self.assertEqual(calls, [[[]], None])

    def test_key_and_names(self):
        calls = []
        self.assertEqual(perform(MANY, ["a"], out=calls.append, log=calls.append), 2)
        with self.assertRaises(Stopped):
            perform(MANY, ["a"], key="a", out=calls.append, log=calls.append)
        self.assertEqual(perform(log=calls.append, value=["b"], program=MANY, key="a", out=calls.append), 2)
        self.assertEqual(calls, ["a", "a", "b", "b"])

    def test_no_values(self):
        with self.assertRaises(BadValue) as caught:
            perform(QUIET, ["a", 1])
        self.assertEqual(caught.exception.place, (1,))


class Baskets(unittest.TestCase):
    def test_empty(self):
        basket = Basket("out", "log")
        self.assertEqual(len(basket), 0)
        self.assertEqual(basket.names(), ["out", "log"])
        self.assertEqual(basket.entries("out"), Entries(None))
        self.assertEqual(Basket().names(), [])
        self.assertEqual(len(Basket()), 0)
        self.assertEqual(Basket("x", "", "no name!", "a").names(), ["x", "", "no name!", "a"])

    def test_fill(self):
        basket = Basket("more", "log", "end", "out")
        self.assertIsNone(basket.fill(EACH, ["ab", ["c"], None]))
        self.assertEqual(basket.entries("out").listed(), ["ab", ["c"], None])
        self.assertEqual(basket.entries("log").listed(), ["ab", ["c"], None])
        self.assertEqual(basket.entries("end").listed(), [[["ab", ["c"], None]]])
        self.assertEqual(basket.entries("more").listed(), [])
        self.assertEqual(len(basket), 7)
        self.assertIsNone(basket.fill(MANY, ["x"], key="y"))
        self.assertEqual(basket.entries("out").listed(), ["ab", ["c"], None, "x"])
        self.assertEqual(basket.entries("log").listed(), ["ab", ["c"], None, "x"])
        self.assertEqual(len(basket), 9)
        self.assertEqual(basket.names(), ["more", "log", "end", "out"])

    def test_each_part_is_one_entry(self):
        basket = Basket("out")
        program = Program("def main(v):\n  out(v)")
        for value in (None, [], "", ["a", "b"], [[]], "ab"):
            basket.fill(program, value)
        self.assertEqual(basket.entries("out").listed(), [None, [], "", ["a", "b"], [[]], "ab"])
        self.assertEqual(len(basket), 6)

    def test_like_runs(self):
        rng = random.Random(61)
        for _ in range(60):
            basket = Basket("t", "log", "out")
            rows = {"t": [], "log": [], "out": []}
            for _ in range(4):
                program, value, key = Program(made_up.right_program(rng)), made_up.value(rng), made_up.key(rng)
                told = run(program, value, key=key)
                if told:
                    basket.fill(program, value, key=key)
                    for name in rows:
                        rows[name] += told.entries(name).listed()
                else:
                    with self.assertRaises(Stopped) as caught:
                        basket.fill(program, value, key=key)
                    self.assertEqual((caught.exception.way, caught.exception.line), (told.way, told.line))
                self.assertEqual({name: basket.entries(name).listed() for name in rows}, rows)
                self.assertEqual(len(basket), sum(len(row) for row in rows.values()))

    def test_entries_are_new(self):
        value = [["a"], ["b", ["c"]]]
        basket = Basket("out", "log", "end")
        basket.fill(EACH, value)
        spoil(value)
        one, other = basket.entries("out"), basket.entries("out")
        self.assertEqual(one.listed(), [["a"], ["b", ["c"]]])
        one += "more"
        one[0] = None
        spoil(list(other))
        self.assertEqual(basket.entries("out").listed(), [["a"], ["b", ["c"]]])
        self.assertEqual(basket.entries("end").listed(), [[[["a"], ["b", ["c"]]]]])
        names = basket.names()
        names.append("more")
        self.assertEqual(basket.names(), ["out", "log", "end"])

    def test_entries_of_no_name(self):
        basket = Basket("out", "1")
        for name in ("log", "Out", "", None, 1, True, ["out"], ("out",), [], nested("out", 3)):
            with self.assertRaises(NoTaker) as caught:
                basket.entries(name)
            self.assertEqual(caught.exception.name, name)
        self.assertEqual(basket.entries(name="1"), Entries(None))

    def test_stopped_puts_nothing_in(self):
        basket = Basket("out", "log", "end")
        basket.fill(EACH, ["z"])
        for program, value, key, way, line in [
            (EACH, None, "", "fail", 1), (MANY, ["a", "ab"], "ab", "refuse", 3), (SELF, ["b", "a"], "", "endless", 4),
            (MANY, ["a", ["b"], None], "", "fail", 5),
        ]:
            for one in (basket, Basket()):
                with self.assertRaises(Stopped) as caught:
                    one.fill(program, value, key=key)
                self.assertEqual((caught.exception.way, caught.exception.line), (way, line))
        self.assertEqual([basket.entries(name).listed() for name in basket.names()], [["z"], ["z"], [[["z"]]]])

    def test_no_taker_puts_nothing_in(self):
        for names, missing in ((("log", "end"), "out"), (("out", "end"), "log"), (("log", "out"), "end"), ((), "out")):
            basket = Basket(*names)
            with self.assertRaises(NoTaker) as caught:
                basket.fill(EACH, ["a"])
            self.assertEqual(caught.exception.name, missing)
            self.assertEqual(len(basket), 0)

    def test_other_baskets_stay(self):
        one, other = Basket("out"), Basket("out")
        one.fill(QUIET, None)
        self.assertEqual((len(one), len(other)), (1, 0))

    def test_arguments_by_name(self):
        basket = Basket("out", "log")
        basket.fill(key="b", value=["a"], program=MANY)
        with self.assertRaises(Stopped):
            basket.fill(MANY, ["b"], key="b")
        self.assertEqual(len(basket), 2)


class Trials(unittest.TestCase):
    def setUp(self):
        self.basket = Basket("out", "log")
        self.basket.fill(MANY, ["x"])

    def rows(self):
        return [self.basket.entries(name).listed() for name in ("out", "log")]

    def test_gives_the_basket(self):
        with Trial(self.basket) as held:
            self.assertIs(held, self.basket)
            held.fill(MANY, ["y"])
        self.assertEqual(self.rows(), [["x", "y"], ["x", "y"]])

    def test_errors_of_all_kinds(self):
        for error in (Odd("why"), ValueError("why"), KeyError(1), Stopped("end", 1), TextorlistError("t"), KeyboardInterrupt(),
                      SystemExit(1), StopIteration(), GeneratorExit()):
            with self.assertRaises(type(error)) as caught:
                with Trial(self.basket):
                    self.basket.fill(MANY, ["y"])
                    self.basket.fill(MANY, ["z"])
                    raise error
            self.assertIs(caught.exception, error)
            self.assertEqual(self.rows(), [["x"], ["x"]])
            self.assertEqual(len(self.basket), 2)

    def test_errors_of_the_package(self):
        with self.assertRaises(Stopped) as caught:
            with Trial(self.basket) as held:
                held.fill(MANY, ["y"])
                held.fill(MANY, None)
        self.assertEqual((caught.exception.way, caught.exception.line), ("fail", 1))
        self.assertEqual(self.rows(), [["x"], ["x"]])
        with self.assertRaises(NoTaker):
            with Trial(self.basket) as held:
                held.fill(MANY, ["y"])
                held.entries("end")
        self.assertEqual(self.rows(), [["x"], ["x"]])

    def test_begins_when_it_is_entered(self):
        trial = Trial(self.basket)
        self.basket.fill(MANY, ["y"])
        with self.assertRaises(Odd):
            with trial:
                self.basket.fill(MANY, ["z"])
                raise Odd
        self.assertEqual(self.rows(), [["x", "y"], ["x", "y"]])

    def test_trials_inside_one_another(self):
        with self.assertRaises(Odd) as caught:
            with Trial(self.basket):
                self.basket.fill(MANY, ["y"])
                with Trial(self.basket):
                    self.basket.fill(MANY, ["z"])
                with self.assertRaises(Odd):
                    with Trial(self.basket):
                        self.basket.fill(MANY, ["w"])
                        raise Odd("inner")
                self.assertEqual(self.rows()[0], ["x", "y", "z"])
                raise Odd("outer")
        self.assertEqual(str(caught.exception), "outer")
        self.assertEqual(self.rows(), [["x"], ["x"]])

    def test_one_error_through_several_trials(self):
        error = Odd()
        with self.assertRaises(Odd) as caught:
            with Trial(self.basket):
                self.basket.fill(MANY, ["y"])
                with Trial(self.basket):
                    self.basket.fill(MANY, ["z"])
                    raise error
        self.assertIs(caught.exception, error)
        self.assertEqual(self.rows(), [["x"], ["x"]])

    def test_inner_trial_keeps_what_was_put_in_ahead_of_it(self):
        with Trial(self.basket):
            self.basket.fill(MANY, ["y"])
            with self.assertRaises(Odd):
                with Trial(self.basket):
                    self.basket.fill(MANY, ["z"])
                    raise Odd
        self.assertEqual(self.rows(), [["x", "y"], ["x", "y"]])

    def test_other_baskets_stay(self):
        other = Basket("out", "log")
        with self.assertRaises(Odd):
            with Trial(self.basket):
                other.fill(MANY, ["y"])
                raise Odd
        self.assertEqual(len(other), 2)

    def test_leaving_without_an_error(self):
        def step():
            with Trial(self.basket) as held:
                held.fill(MANY, ["y"])
                return len(held)

        self.assertEqual(step(), 4)
        for _ in range(2):
            with Trial(self.basket):
                self.basket.fill(MANY, ["z"])
                continue
        self.assertEqual(self.rows()[0], ["x", "y", "z", "z"])

    def test_filled(self):
        def step(held):
            self.assertIs(held, self.basket)
            held.fill(MANY, ["y"])
            return [held, 7]

        told = filled(self.basket, step)
        self.assertIs(told[0], self.basket)
        self.assertEqual(told[1], 7)
        self.assertEqual(self.rows(), [["x", "y"], ["x", "y"]])
        self.assertIsNone(filled(step=lambda held: None, basket=self.basket))

    def test_filled_with_errors(self):
        for error in (Odd("why"), NoTaker("x"), ZeroDivisionError(), KeyboardInterrupt()):
            def step(held):
                held.fill(MANY, ["y"])
                with self.assertRaises(Odd):
                    filled(held, inner)
                held.fill(MANY, ["w"])
                raise error

            def inner(held):
                held.fill(MANY, ["z"])
                raise Odd

            with self.assertRaises(type(error)) as caught:
                filled(self.basket, step)
            self.assertIs(caught.exception, error)
            self.assertEqual(self.rows(), [["x"], ["x"]])

    def test_filled_inside_one_another(self):
        def outer(held):
            held.fill(MANY, ["y"])
            return filled(held, lambda row: row.fill(MANY, ["z"]))

        self.assertIsNone(filled(self.basket, outer))
        self.assertEqual(self.rows()[0], ["x", "y", "z"])


if __name__ == "__main__":
    unittest.main()

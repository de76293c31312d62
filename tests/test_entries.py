"""Entries: what they are made of, sums, indexes, members, and what they give."""

import copy
import unittest

from textorlist.entries import Entries
from textorlist.errors import BadValue, NoEntry, NotText
from textorlist.values import wrapped
from tests.samples import LARGE_VALUES, NO_VALUES, has_twice, nested, shares_list, small_values, spoil

VALUES = small_values() + LARGE_VALUES


def meant(value):
    """A second opinion: the entries of a value."""
    if value is None:
        return []
    return [value] if isinstance(value, str) else value


class Made(unittest.TestCase):
    def test_kinds(self):
        self.assertEqual(Entries(None).listed(), [])
        self.assertEqual(Entries("").listed(), [""])
        self.assertEqual(Entries("a").listed(), ["a"])
        self.assertEqual(Entries("ab").listed(), ["ab"])
        self.assertEqual(Entries([]).listed(), [])
        self.assertEqual(Entries([None, "ab", ["cd"], []]).listed(), [None, "ab", ["cd"], []])
        self.assertEqual(Entries([["ab", "cd"]]).listed(), [["ab", "cd"]])

    def test_all_values(self):
        for value in VALUES:
            entries = Entries(value)
            self.assertEqual(entries.listed(), meant(value))
            self.assertEqual(list(entries), meant(value))
            self.assertEqual([entry for entry in entries], meant(value))
            self.assertEqual(len(entries), len(meant(value)))
            self.assertIs(bool(entries), len(meant(value)) > 0)

    def test_no_values(self):
        for thing, place in NO_VALUES:
            with self.assertRaises(BadValue) as held:
                Entries(thing)
            self.assertEqual(held.exception.place, place)

    def test_of(self):
        self.assertEqual(Entries.of().listed(), [])
        self.assertEqual(Entries.of(None).listed(), [None])
        self.assertEqual(Entries.of("ab").listed(), ["ab"])
        self.assertEqual(Entries.of([]).listed(), [[]])
        self.assertEqual(Entries.of(["ab", "cd"]).listed(), [["ab", "cd"]])
        self.assertEqual(Entries.of(None, "", "ab", ["cd", None]).listed(), [None, "", "ab", ["cd", None]])
        self.assertIsInstance(Entries.of("ab"), Entries)

    def test_of_all_values(self):
        for value in VALUES:
            self.assertEqual(Entries.of(value).listed(), [value])
            self.assertEqual(Entries.of("x", value, value).listed(), ["x", value, value])

    def test_of_no_values(self):
        for thing, place in NO_VALUES:
            for before in ([], ["ab"], [None, [], ["a", ["b"]]]):
                with self.assertRaises(BadValue) as held:
                    Entries.of(*before, thing, "B")
                self.assertEqual(held.exception.place, (len(before),) + place)

    def test_by_name(self):
        self.assertEqual(Entries(value="ab").listed(), ["ab"])

    def test_size_of_four_thousand(self):
        self.assertEqual(len(Entries([None] * 3999)), 3999)
        self.assertEqual(Entries("a" * 3999).listed(), ["a" * 3999])

    def test_arguments_are_copied(self):
        value = ["ab", ["cd", ["ef"]]]
        made = [Entries(value), Entries.of(*value), Entries.of(value)]
        before = [entries.listed() for entries in made]
        spoil(value)
        self.assertEqual([entries.listed() for entries in made], before)

    def test_arguments_are_not_changed(self):
        for value in VALUES:
            before = copy.deepcopy(value)
            entries = Entries(value)
            entries += value
            entries += entries
            if entries:
                entries[0] = "changed"
            Entries.of(value).set_entry(0, "changed")
            self.assertEqual(value, before)


class Compared(unittest.TestCase):
    def test_equal(self):
        self.assertTrue(Entries("ab") == Entries(["ab"]))
        self.assertFalse(Entries("ab") != Entries(["ab"]))
        self.assertTrue(Entries(None) == Entries([]))
        self.assertTrue(Entries.of("ab", None) == Entries(["ab", None]))
        self.assertTrue(Entries.of(["ab"]) == Entries([["ab"]]))

    def test_not_equal(self):
        different = [
            Entries(None), Entries.of(None), Entries(""), Entries("a"), Entries("ab"), Entries(["a", "b"]),
            Entries(["b", "a"]), Entries([["ab"]]), Entries([["a", "b"]]), Entries([[]]), Entries([[], []]),
            Entries([[[]]]), Entries(["a", ["b"]]), Entries([["a"], "b"]), Entries(["a", "b", None]),
        ]
        for at, one in enumerate(different):
            for beside, other in enumerate(different):
                self.assertIs(one == other, at == beside)
                self.assertIs(one != other, at != beside)

    def test_other_things(self):
        for value in small_values():
            entries = Entries(value)
            for other in (value, meant(value), tuple(meant(value)), repr(entries), len(entries), None, True, 0, object()):
                self.assertIs(entries == other, False)
                self.assertIs(other == entries, False)
                self.assertIs(entries != other, True)
                self.assertIs(other != entries, True)

    def test_all_values(self):
        for one in small_values():
            for other in small_values():
                self.assertIs(Entries(one) == Entries(other), meant(one) == meant(other))
                self.assertIs(Entries.of(one) == Entries.of(other), one == other)

    def test_repr(self):
        self.assertEqual(repr(Entries(None)), "Entries([])")
        self.assertEqual(repr(Entries("ab")), "Entries(['ab'])")
        self.assertEqual(repr(Entries(["ab", None, ["", []]])), "Entries(['ab', None, ['', []]])")
        for value in VALUES:
            self.assertEqual(repr(Entries(value)), "Entries(" + repr(meant(value)) + ")")


class Sums(unittest.TestCase):
    def test_example_of_the_document(self):
        self.assertEqual((Entries("ab") + "cd").listed(), ["ab", "cd"])
        self.assertEqual((["ab"] + Entries("cd")).listed(), ["ab", "cd"])

    def test_all_sides(self):
        for one in small_values()[:24]:
            for other in small_values():
                both = meant(one) + meant(other)
                for total in (Entries(one) + Entries(other), Entries(one) + other, one + Entries(other)):
                    self.assertIsInstance(total, Entries)
                    self.assertEqual(total.listed(), both)

    def test_large(self):
        for value in LARGE_VALUES:
            self.assertEqual((Entries("x") + value).listed(), ["x"] + meant(value))
            self.assertEqual((value + Entries("x")).listed(), meant(value) + ["x"])

    def test_nothing_adds_nothing(self):
        self.assertEqual((Entries("ab") + None).listed(), ["ab"])
        self.assertEqual((None + Entries("ab")).listed(), ["ab"])
        self.assertEqual((Entries("ab") + []).listed(), ["ab"])
        self.assertEqual((Entries("ab") + [None]).listed(), ["ab", None])
        self.assertEqual(([None] + Entries("ab")).listed(), [None, "ab"])
        self.assertEqual((Entries("ab") + "").listed(), ["ab", ""])

    def test_new_and_the_sides_stay(self):
        one, other, value = Entries(["ab", ["x"]]), Entries([["y"]]), [["z"]]
        for total in (one + other, other + one, one + value, value + one, one + one, one + None, None + one, one * 1):
            self.assertIsNot(total, one)
            self.assertIsNot(total, other)
            self.assertFalse(has_twice(list(total)))
            self.assertFalse(shares_list(list(total), [list(one), list(other), value]))
            total[0] = "changed"
            total += "more"
        self.assertEqual(one.listed(), ["ab", ["x"]])
        self.assertEqual(other.listed(), [["y"]])
        self.assertEqual(value, [["z"]])

    def test_later_changes_of_a_side(self):
        one, other, value = Entries([["x"]]), Entries([["y"]]), [["z"]]
        totals = [one + other, one + value, value + one]
        one[0] = "changed"
        other += "more"
        spoil(value)
        self.assertEqual([total.listed() for total in totals], [[["x"], ["y"]], [["x"], ["z"]], [["z"], ["x"]]])

    def test_sum(self):
        self.assertEqual(sum(["ab", ["cd", "ef"], None, [None]], Entries(None)).listed(), ["ab", "cd", "ef", None])


class InPlace(unittest.TestCase):
    def test_values(self):
        for one in small_values()[:24]:
            for other in small_values():
                entries = Entries(one)
                same = entries
                entries += other
                self.assertIs(entries, same)
                self.assertEqual(same.listed(), meant(one) + meant(other))

    def test_entries(self):
        entries, other = Entries("ab"), Entries(["cd", ["ef"]])
        same = entries
        entries += other
        self.assertIs(entries, same)
        self.assertEqual(same.listed(), ["ab", "cd", ["ef"]])
        self.assertEqual(other.listed(), ["cd", ["ef"]])
        self.assertFalse(shares_list(list(entries), list(other)))

    def test_itself(self):
        for value in VALUES:
            entries = Entries(value)
            same = entries
            entries += entries
            self.assertIs(entries, same)
            self.assertEqual(same.listed(), meant(value) + meant(value))
            self.assertFalse(has_twice(list(entries)))

    def test_all_names_see_it(self):
        rows = [Entries("ab")]
        named = {"one": rows[0]}
        rows[0] += "cd"
        self.assertEqual(named["one"].listed(), ["ab", "cd"])
        self.assertIs(named["one"], rows[0])

    def test_shared_lists_come_apart(self):
        row = ["a"]
        entries = Entries([row, row])
        entries += [row, row]
        entries += entries
        self.assertFalse(has_twice(list(entries)))
        self.assertFalse(has_twice(entries.listed()))

    def test_later_changes_have_no_effect(self):
        value, other = [["x"]], Entries([["y"]])
        entries = Entries(None)
        entries += value
        entries += other
        spoil(value)
        other[0] = "changed"
        self.assertEqual(entries.listed(), [["x"], ["y"]])

    def test_others_do_not_see_it(self):
        one = Entries("ab")
        total = one + "cd"
        again = one * 2
        one += "ef"
        self.assertEqual(total.listed(), ["ab", "cd"])
        self.assertEqual(again.listed(), ["ab", "ab"])


class Repeated(unittest.TestCase):
    def test_counts(self):
        for value in small_values():
            for count in (0, 1, 2, 3, 7, -1, -2, -400, -10 ** 20, -10 ** 29):
                many = meant(value) * max(0, count)
                for made in (Entries(value) * count, count * Entries(value)):
                    self.assertIsInstance(made, Entries)
                    self.assertEqual(made.listed(), many)
                    self.assertIs(bool(made), len(many) > 0)

    def test_four_hundred(self):
        self.assertEqual((Entries("ab") * 400).listed(), ["ab"] * 400)
        self.assertEqual((400 * Entries("ab")).listed(), ["ab"] * 400)
        self.assertEqual(len(Entries(None) * 400), 0)

    def test_new(self):
        one = Entries(["ab", ["x"]])
        for made in (one * 3, 3 * one):
            self.assertFalse(has_twice(list(made)))
            self.assertFalse(shares_list(list(made), list(one)))
            made[1] = "changed"
            self.assertEqual(made[3], ["x"])
        self.assertEqual(one.listed(), ["ab", ["x"]])
        self.assertFalse(has_twice((one * 3).listed()))


class Indexes(unittest.TestCase):
    ROWS = ["ab", None, ["c", ["d"]], "", []]
    NO_INDEXES = [
        5, -6, 6, 400, -400, 10 ** 29, -10 ** 29, 10 ** 30 - 1, True, False, None, "", "0", "ab", (), (0,), [], [0],
        [[1]], ((0,), [2]),
    ]

    def test_from_both_ends(self):
        entries = Entries(self.ROWS)
        for at in range(-5, 5):
            self.assertEqual(entries[at], self.ROWS[at])

    def test_texts_do_not_come_apart(self):
        self.assertEqual(Entries("ab")[0], "ab")
        self.assertEqual(Entries("ab")[-1], "ab")
        with self.assertRaises(NoEntry):
            Entries("ab")[1]

    def test_no_entry(self):
        for at in self.NO_INDEXES:
            entries = Entries(self.ROWS)
            with self.assertRaises(NoEntry) as held:
                entries[at]
            self.assertEqual(repr(held.exception.at), repr(at))
            with self.assertRaises(NoEntry) as held:
                entries[at] = "new"
            self.assertEqual(repr(held.exception.at), repr(at))
            with self.assertRaises(NoEntry) as held:
                entries.set_entry(at, "new")
            self.assertEqual(repr(held.exception.at), repr(at))
            self.assertEqual(entries.listed(), self.ROWS)

    def test_no_entry_in_none(self):
        for value in (None, []):
            for at in (0, -1, 1):
                entries = Entries(value)
                with self.assertRaises(NoEntry):
                    entries[at]
                with self.assertRaises(NoEntry):
                    entries[at] = "new"
                with self.assertRaises(NoEntry):
                    entries.set_entry(at, "new")
                self.assertEqual(entries.listed(), [])

    def test_error_keeps_a_copy(self):
        at = [[1]]
        with self.assertRaises(NoEntry) as held:
            Entries("ab")[at]
        at[0].append(2)
        self.assertEqual(held.exception.at, [[1]])

    def test_setting(self):
        for at in range(-5, 5):
            for value in small_values():
                expected = list(self.ROWS)
                expected[at] = value
                entries, beside = Entries(self.ROWS), Entries(self.ROWS)
                entries[at] = value
                self.assertEqual(entries.listed(), expected)
                self.assertIsNone(beside.set_entry(at, value))
                self.assertEqual(beside.listed(), expected)
                self.assertEqual(len(entries), 5)

    def test_setting_puts_one_entry(self):
        entries = Entries(["ab", "cd"])
        entries[0] = ["x", "y"]
        entries[1] = None
        self.assertEqual(entries.listed(), [["x", "y"], None])

    def test_set_entry_by_name(self):
        entries = Entries(["ab", "cd"])
        self.assertIsNone(entries.set_entry(value="x", at=-1))
        self.assertEqual(entries.listed(), ["ab", "x"])

    def test_all_names_see_it(self):
        entries = Entries("ab")
        same = entries
        entries[0] = "cd"
        self.assertEqual(same.listed(), ["cd"])

    def test_what_is_put_in_is_copied(self):
        entries = Entries(["ab", "cd"])
        value = ["x", ["y"]]
        entries[0] = value
        entries.set_entry(1, value)
        spoil(value)
        self.assertEqual(entries.listed(), [["x", ["y"]], ["x", ["y"]]])
        self.assertFalse(has_twice(list(entries)))

    def test_what_is_given_is_new(self):
        entries = Entries([["x", ["y"]]])
        spoil(entries[0])
        spoil(entries[-1])
        self.assertEqual(entries.listed(), [["x", ["y"]]])

    def test_a_returned_entry_can_be_put_in_again(self):
        entries = Entries([["x", ["y"]], None])
        entries[1] = entries[0]
        self.assertEqual(entries.listed(), [["x", ["y"]], ["x", ["y"]]])
        self.assertFalse(has_twice(list(entries)))


class Members(unittest.TestCase):
    def test_example_of_the_document(self):
        self.assertIs("a" in Entries("ab"), False)
        self.assertIs("ab" in Entries("ab"), True)

    def test_pieces_are_no_members(self):
        for piece in ("", "a", "b", "c", "bc", "abc", "abcda"):
            self.assertIs(piece in Entries("abcd"), False)
            self.assertIs(piece in Entries(["abcd", ["a", "bc", ""]]), False)
        self.assertIs("" in Entries(None), False)
        self.assertIs("" in Entries(""), True)

    def test_values(self):
        for value in small_values():
            entries = Entries(value)
            for thing in small_values():
                self.assertIs(thing in entries, thing in meant(value))
                self.assertIs(thing not in entries, thing not in meant(value))

    def test_only_entries_not_what_is_in_them(self):
        entries = Entries([["ab", [None]], [[]]])
        for thing in ("ab", None, [None], [], "a", ["ab"], [["ab", [None]], [[]]]):
            self.assertIs(thing in entries, False)
        for thing in (["ab", [None]], [[]]):
            self.assertIs(thing in entries, True)

    def test_things_that_are_no_values(self):
        entries = Entries([None, "", "a", "ab", [], ["a"], ["a", "b"], [None], [[]], ["a", ["b"]]])
        for thing, _ in NO_VALUES:
            self.assertIs(thing in entries, False)
        for thing in (
            0, 1, 2, True, False, (), ("a",), ("a", "b"), (None,), ("a", ["b"]), [0], [1], [()], [("a",)], [False],
            ["a", ("b",)], ["a", "B"], [[], 0], "A", "1", "a ", 10 ** 29, [["a"], 1],
        ):
            self.assertIs(thing in entries, False)

    def test_large(self):
        for value in LARGE_VALUES:
            self.assertIs(copy.deepcopy(value) in Entries.of("x", value), True)
            self.assertIs(value in Entries.of("x", [value]), False)

    def test_after_changes(self):
        entries = Entries(["ab", "cd"])
        entries[0] = ["ab"]
        entries += "ef"
        self.assertEqual([thing in entries for thing in ("ab", ["ab"], "cd", "ef")], [False, True, True, True])


class Given(unittest.TestCase):
    def test_listed_is_new(self):
        for value in VALUES:
            entries = Entries(value)
            rows = entries.listed()
            self.assertIsInstance(rows, list)
            self.assertFalse(shares_list(rows, value))
            self.assertFalse(shares_list(rows, list(entries)))
            self.assertFalse(has_twice(rows))
            spoil(rows)
            self.assertEqual(entries.listed(), meant(value))

    def test_packed(self):
        self.assertIsNone(Entries(None).packed())
        self.assertIsNone(Entries([]).packed())
        self.assertEqual(Entries("ab").packed(), "ab")
        self.assertEqual(Entries("").packed(), "")
        self.assertEqual(Entries(["ab"]).packed(), "ab")
        self.assertEqual(Entries([None]).packed(), [None])
        self.assertEqual(Entries([[]]).packed(), [[]])
        self.assertEqual(Entries([["ab"]]).packed(), [["ab"]])
        self.assertEqual(Entries(["ab", "cd"]).packed(), ["ab", "cd"])
        self.assertEqual(Entries([None, None]).packed(), [None, None])

    def test_packed_has_these_entries(self):
        for value in VALUES:
            entries = Entries(value)
            self.assertEqual(Entries(entries.packed()), entries)

    def test_packed_is_new(self):
        entries = Entries([["x"], ["y"]])
        packed = entries.packed()
        self.assertFalse(shares_list(packed, list(entries)))
        spoil(packed)
        self.assertEqual(entries.listed(), [["x"], ["y"]])
        spoil(Entries([["x"]]).packed())
        row = ["x"]
        self.assertFalse(has_twice(Entries([row, row]).packed()))

    def test_iterated_as_lists_are(self):
        one, two = Entries(["ab", "cd"])
        self.assertEqual((one, two), ("ab", "cd"))
        self.assertEqual([*Entries("ab")], ["ab"])
        self.assertEqual(tuple(Entries([None, ["a"]])), (None, ["a"]))
        entries = Entries(["ab", "cd"])
        self.assertEqual([(x, y) for x in entries for y in entries][1:3], [("ab", "cd"), ("cd", "ab")])


class Joined(unittest.TestCase):
    def test_texts(self):
        self.assertEqual(Entries(None).joined(", "), "")
        self.assertEqual(Entries("ab").joined(", "), "ab")
        self.assertEqual(Entries("").joined(", "), "")
        self.assertEqual(Entries(["ab", "cd", ""]).joined(", "), "ab, cd, ")
        self.assertEqual(Entries(["ab", "cd"]).joined(""), "abcd")
        self.assertEqual(Entries(["", "", ""]).joined("\n"), "\n\n")
        self.assertEqual(Entries(["a", "b"]).joined(between="A {0} ~"), "aA {0} ~b")
        self.assertIsInstance(Entries("ab").joined("-"), str)

    def test_no_texts(self):
        for rows, at in [
            ([None], 0), ([[]], 0), (["ab", None], 1), (["ab", ["cd"]], 1), ([["ab"], "cd"], 0),
            (["a", "", "b", [], None], 3), (["a"] * 399 + [None], 399),
        ]:
            entries = Entries(rows)
            for between in ("", ", "):
                with self.assertRaises(NotText) as held:
                    entries.joined(between)
                self.assertEqual(held.exception.at, at)
            self.assertEqual(entries.listed(), rows)


class Flat(unittest.TestCase):
    def test_all_texts_in_order(self):
        self.assertEqual(list(Entries(None).flat()), [])
        self.assertEqual(list(Entries("ab").flat()), ["ab"])
        self.assertEqual(list(Entries("").flat()), [""])
        self.assertEqual(list(Entries([[], [[]], None, [None]]).flat()), [])
        self.assertEqual(
            list(Entries(["ab", None, ["c", [], ["", [None, "d"]], "e"], "f"]).flat()), ["ab", "c", "", "d", "e", "f"],
        )
        self.assertEqual(list(Entries(nested("ab", 12)).flat()), ["ab"])

    def test_all_values(self):
        def texts(value):
            if isinstance(value, list):
                return [text for item in value for text in texts(item)]
            return [] if value is None else [value]
        for value in VALUES:
            self.assertEqual(list(Entries(value).flat()), texts(value))

    def test_a_generator(self):
        given = Entries(["ab", ["cd"]]).flat()
        self.assertIs(iter(given), given)
        self.assertEqual(next(given), "ab")
        self.assertEqual(next(given), "cd")
        with self.assertRaises(StopIteration):
            next(given)

    def test_two_at_once(self):
        entries = Entries(["ab", ["cd"]])
        self.assertEqual(list(zip(entries.flat(), entries.flat())), [("ab", "ab"), ("cd", "cd")])
        self.assertEqual(entries.listed(), ["ab", ["cd"]])


class Deep(unittest.TestCase):
    def test_returned_values(self):
        value = nested(["ab", None], 11)
        for _ in range(150):
            value = wrapped(value, ())
        entries = Entries(value)
        self.assertEqual(entries.listed(), value)
        self.assertEqual(entries, Entries(value))
        self.assertIn(value[0], entries)
        self.assertNotIn(value, entries)
        self.assertEqual(repr(entries), "Entries(" + repr(value) + ")")
        self.assertEqual(list(entries.flat()), ["ab"])
        self.assertEqual((entries + value).listed(), value + value)
        self.assertEqual(entries[0], value[0])


if __name__ == "__main__":
    unittest.main()

"""Values, their kinds and sizes, items, places and parts."""

import copy
import unittest

from textorlist.errors import BadValue, NoItems, NoPlace
from textorlist.values import (
    check_value, depth_of, is_torn, is_value, items_of, kind_of, part_of, places_of, size_of, wrapped,
)
from tests.samples import LARGE_VALUES, LETTERS, NO_VALUES, has_twice, nested, shares_list, small_values, spoil

VALUES = small_values() + LARGE_VALUES

# None of these is a place of the text "ab", whose places are (), (0,) and (1,).
NO_PLACES = [
    None, True, False, 0, 1, -1, 10 ** 29, "", "0", "ab", [], [0], [()], (-1,), (2,), (10 ** 29,), (-10 ** 29,),
    (True,), (False,), (None,), ("0",), ("a",), ((0,),), ([0],), ((),), (0, 0), (0, 0, 0), (1, 0), (0, True),
]


def naive_size(value):
    if isinstance(value, list):
        return 1 + sum(naive_size(item) for item in value)
    return 1 if value is None else 1 + len(value)


def naive_depth(value):
    if isinstance(value, list):
        return 1 + max([naive_depth(item) for item in value], default=0)
    return 0


def naive_places(value):
    """A list of (place, part, whether it is torn)."""
    found = [((), value, False)]
    if isinstance(value, str) and len(value) > 1:
        found += [((at,), value[at], True) for at in range(len(value))]
    if isinstance(value, list):
        for at, item in enumerate(value):
            found += [((at,) + place, part, torn) for place, part, torn in naive_places(item)]
    return found


def naive_wrapped(value, place):
    if not place:
        return [value]
    made = list(value)
    made[place[0]] = naive_wrapped(value[place[0]], place[1:])
    return made


def grown(times):
    """A value that was returned, and is larger and deeper than what may be passed at first."""
    value = nested(["ab", None], 11)
    for _ in range(times):
        value = wrapped(value, ())
    return value


class Checking(unittest.TestCase):
    def test_values(self):
        for value in VALUES:
            self.assertIsNone(check_value(value))
            self.assertIs(is_value(value), True)

    def test_every_letter(self):
        for code in range(32, 127):
            for text in (chr(code), "a" + chr(code), chr(code) + "z", "a" + chr(code) + "z"):
                self.assertIs(is_value(text), chr(code) in LETTERS)
                self.assertIs(is_value([text]), chr(code) in LETTERS)

    def test_no_values(self):
        for thing, place in NO_VALUES:
            self.assertIs(is_value(thing), False)
            with self.assertRaises(BadValue) as held:
                check_value(thing)
            self.assertEqual(held.exception.place, place)
            self.assertIsInstance(held.exception.place, tuple)

    def test_first_place_of_many(self):
        with self.assertRaises(BadValue) as held:
            check_value([["a", [1, "B"]], "B", 2])
        self.assertEqual(held.exception.place, (0, 1, 0))
        with self.assertRaises(BadValue) as held:
            check_value([[], [[], [[]]], ["a", "b", ("c",), 1], 1])
        self.assertEqual(held.exception.place, (2, 2))

    def test_each_place_is_found(self):
        value = ["ab", [None, ["c", []]], [["d"], "e"]]
        for place, _, torn in naive_places(value):
            for wrong in ("B", 1, True, (), ("a",), {}):
                if torn or place == ():
                    continue
                broken = copy.deepcopy(value)
                holder = broken
                for at in place[:-1]:
                    holder = holder[at]
                holder[place[-1]] = wrong
                with self.assertRaises(BadValue) as held:
                    check_value(broken)
                self.assertEqual(held.exception.place, place)

    def test_returned_deep_values(self):
        value = grown(150)
        self.assertIsNone(check_value(value))
        self.assertTrue(is_value(value))
        self.assertFalse(is_value([value, "B"]))
        with self.assertRaises(BadValue) as held:
            check_value([value, "B"])
        self.assertEqual(held.exception.place, (1,))

    def test_by_name(self):
        self.assertIsNone(check_value(thing="ab"))
        self.assertTrue(is_value(thing="ab"))


class Measures(unittest.TestCase):
    def test_kind(self):
        self.assertEqual(kind_of(None), "nothing")
        for text in ("", "a", "ab", "a" * 399):
            self.assertEqual(kind_of(text), "text")
        for row in ([], [None], [""], ["ab"], [[]], nested("a", 12)):
            self.assertEqual(kind_of(row), "list")

    def test_examples_of_the_document(self):
        self.assertEqual(size_of("ab"), 3)
        self.assertEqual(size_of(["", None, []]), 4)
        self.assertEqual(size_of(None), 1)
        self.assertEqual(size_of(""), 1)
        self.assertEqual(size_of([]), 1)
        self.assertEqual(depth_of(None), 0)
        self.assertEqual(depth_of("ab"), 0)
        self.assertEqual(depth_of([]), 1)

    def test_size(self):
        for value in VALUES:
            self.assertEqual(size_of(value), naive_size(value))

    def test_depth(self):
        for value in VALUES:
            self.assertEqual(depth_of(value), naive_depth(value))

    def test_depth_takes_the_deepest_item(self):
        self.assertEqual(depth_of([[], [[["a"]]], "abc", [[]]]), 4)
        self.assertEqual(depth_of(["a", None, ""]), 1)
        self.assertEqual(depth_of([[[]], []]), 3)
        self.assertEqual(depth_of(nested("ab", 12)), 12)
        self.assertEqual(depth_of(nested([], 11)), 12)

    def test_returned_values(self):
        value = grown(150)
        self.assertEqual(depth_of(value), 162)
        self.assertEqual(size_of(value), 166)
        self.assertEqual(kind_of(value), "list")
        self.assertEqual(len(places_of(value)), 166)

    def test_by_name(self):
        self.assertEqual(kind_of(value="ab"), "text")
        self.assertEqual(size_of(value="ab"), 3)
        self.assertEqual(depth_of(value=[]), 1)
        self.assertEqual(items_of(value="ab"), ["a", "b"])
        self.assertEqual(places_of(value="a"), [()])


class Items(unittest.TestCase):
    def test_texts(self):
        self.assertEqual(items_of(""), [])
        self.assertEqual(items_of("a"), ["a"])
        self.assertEqual(items_of("abca"), ["a", "b", "c", "a"])

    def test_lists(self):
        self.assertEqual(items_of([]), [])
        self.assertEqual(items_of(["ab", None, ["c"]]), ["ab", None, ["c"]])

    def test_all(self):
        for value in VALUES:
            if value is not None:
                self.assertEqual(items_of(value), list(value))
                self.assertIsInstance(items_of(value), list)

    def test_nothing(self):
        with self.assertRaises(NoItems):
            items_of(None)

    def test_new_each_time(self):
        for value in VALUES:
            if value is not None:
                before = copy.deepcopy(value)
                first = items_of(value)
                self.assertIsNot(first, value)
                self.assertFalse(shares_list(first, value))
                spoil(first)
                self.assertEqual(value, before)
                self.assertEqual(items_of(value), list(before))

    def test_no_list_twice(self):
        row = ["a"]
        self.assertFalse(has_twice(items_of([row, row, [row]])))


class Places(unittest.TestCase):
    def test_few(self):
        for value in (None, "", "a", []):
            self.assertEqual(places_of(value), [()])
        self.assertEqual(places_of("ab"), [(), (0,), (1,)])
        self.assertEqual(places_of(["a", "b"]), [(), (0,), (1,)])
        self.assertEqual(places_of(["ab", [None, "cd"]]), [
            (), (0,), (0, 0), (0, 1), (1,), (1, 0), (1, 1), (1, 1, 0), (1, 1, 1),
        ])

    def test_all_places_ascending(self):
        for value in VALUES:
            places = places_of(value)
            self.assertEqual(places, [place for place, _, _ in naive_places(value)])
            self.assertEqual(places, sorted(places))
            self.assertTrue(all(isinstance(place, tuple) for place in places))

    def test_more_than_ten_items(self):
        self.assertEqual(places_of("abcdefghijkl"), [()] + [(at,) for at in range(12)])

    def test_new_each_time(self):
        value = ["ab"]
        places_of(value).append("spoilt")
        self.assertEqual(places_of(value), [(), (0,), (0, 0), (0, 1)])


class Parts(unittest.TestCase):
    def test_all_parts(self):
        for value in VALUES:
            for place, part, torn in naive_places(value):
                self.assertEqual(part_of(value, place), part)
                self.assertIs(is_torn(value, place), torn)

    def test_torn(self):
        self.assertIs(is_torn("ab", ()), False)
        self.assertIs(is_torn("ab", (0,)), True)
        self.assertIs(is_torn("ab", (1,)), True)
        self.assertIs(is_torn(["a", "b"], (1,)), False)
        self.assertIs(is_torn(["ab"], (0,)), False)
        self.assertIs(is_torn([["a", "xy"]], (0, 1, 1)), True)

    def test_no_places(self):
        for place in NO_PLACES:
            for asked in (part_of, is_torn, wrapped):
                with self.assertRaises(NoPlace) as held:
                    asked("ab", place)
                self.assertEqual(held.exception.place, place)
                self.assertEqual(repr(held.exception.place), repr(place))

    def test_no_places_in_small_values(self):
        for value, place in [
            (None, (0,)), ("", (0,)), ("a", (0,)), ([], (0,)), (["a"], (1,)), (["a"], (-1,)), (["a"], (0, 0)),
            (["a"], (True,)), (["a", "b"], (True,)), (["a"], (False,)), (["a"], [0]), ([None], (0, 0)),
            (["ab"], (0, 2)), (["ab"], (0, -1)), (["ab"], (0, 0, 0)), (["ab"], (0, False)), (["ab"], (10 ** 29,)),
            ([["a"]], (0, 0, 0)), ([["a"]], (0, 1)), ([["a"]], (0, [0])), ([["a"]], 0), ([["a"]], "0"), (None, None),
            (nested("ab", 12), (0,) * 14), (nested("ab", 12), (0,) * 500), (nested("a", 12), (0,) * 13),
        ]:
            for asked in (part_of, is_torn, wrapped):
                with self.assertRaises(NoPlace) as held:
                    asked(value, place)
                self.assertEqual(repr(held.exception.place), repr(place))

    def test_every_other_place(self):
        value = ["ab", [None, "c", []], ""]
        places = places_of(value)
        numbers = [-1, 0, 1, 2, 3]
        tried = [()] + [(one,) for one in numbers] + [(one, two) for one in numbers for two in numbers]
        tried += [(*place, three) for place in tried[6:] for three in numbers]
        for place in tried:
            if place in places:
                part_of(value, place)
            else:
                with self.assertRaises(NoPlace):
                    part_of(value, place)

    def test_error_keeps_a_copy(self):
        place = [0, [1]]
        with self.assertRaises(NoPlace) as held:
            part_of("ab", place)
        place[1].append(2)
        place.append(3)
        self.assertEqual(held.exception.place, [0, [1]])

    def test_parts_are_new(self):
        for value in VALUES:
            before = copy.deepcopy(value)
            for place in places_of(value):
                part = part_of(value, place)
                self.assertFalse(shares_list(part, value))
                spoil(part)
                self.assertEqual(value, before)

    def test_no_list_twice(self):
        row = ["a"]
        self.assertFalse(has_twice(part_of([row, [row, row]], ())))

    def test_by_name(self):
        self.assertEqual(part_of(place=(1,), value="ab"), "b")
        self.assertTrue(is_torn(place=(1,), value="ab"))
        self.assertEqual(wrapped(place=(0,), value=["ab"]), [["ab"]])


class Wrapped(unittest.TestCase):
    def test_few(self):
        self.assertEqual(wrapped(None, ()), [None])
        self.assertEqual(wrapped("", ()), [""])
        self.assertEqual(wrapped("ab", ()), ["ab"])
        self.assertEqual(wrapped([], ()), [[]])
        self.assertEqual(wrapped(["ab", None], (0,)), [["ab"], None])
        self.assertEqual(wrapped(["ab", None], (1,)), ["ab", [None]])
        self.assertEqual(wrapped(["a", ["b", ["c"]]], (1, 1)), ["a", ["b", [["c"]]]])
        self.assertEqual(wrapped(["a", ["b", ["c"]]], (1, 1, 0)), ["a", ["b", [["c"]]]])
        self.assertEqual(wrapped(["a", ["b", ["c"]]], (1, 0)), ["a", [["b"], ["c"]]])

    def test_all(self):
        for value in VALUES:
            before = copy.deepcopy(value)
            for place, _, torn in naive_places(value):
                if torn:
                    with self.assertRaises(NoPlace) as held:
                        wrapped(value, place)
                    self.assertEqual(held.exception.place, place)
                else:
                    made = wrapped(value, place)
                    self.assertEqual(made, naive_wrapped(value, place))
                    self.assertFalse(shares_list(made, value))
                    self.assertFalse(has_twice(made))
            self.assertEqual(value, before)

    def test_only_one_place_of_a_shared_list(self):
        row = ["a"]
        value = [row, row]
        self.assertEqual(wrapped(value, (0, 0)), [[["a"]], ["a"]])
        self.assertEqual(value, [["a"], ["a"]])
        self.assertFalse(has_twice(wrapped(value, (0, 0))))

    def test_result_can_be_changed(self):
        value = ["ab", ["c", []]]
        spoil(wrapped(value, (1, 0)))
        self.assertEqual(value, ["ab", ["c", []]])

    def test_returned_values_can_be_wrapped_again(self):
        value = grown(150)
        self.assertEqual(part_of(value, (0,) * 161), ["ab", None])
        self.assertEqual(part_of(wrapped(value, (0,) * 161), (0,) * 161), [["ab", None]])
        self.assertTrue(is_torn(value, (0,) * 163))


class Arguments(unittest.TestCase):
    def test_nothing_is_changed(self):
        for value in VALUES:
            before = copy.deepcopy(value)
            check_value(value)
            is_value(value)
            kind_of(value)
            size_of(value)
            depth_of(value)
            places_of(value)
            self.assertEqual(value, before)
        for thing, _ in NO_VALUES:
            before = repr(thing)
            is_value(thing)
            with self.assertRaises(BadValue):
                check_value(thing)
            self.assertEqual(repr(thing), before)


if __name__ == "__main__":
    unittest.main()

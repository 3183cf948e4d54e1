"""Tests of keptedits.lists: source lists, their normal form, and the least parting document (points 15 and 18)."""

import random
import unittest
from itertools import combinations, product
from unittest import mock

from keptedits.errors import InvalidList, InvalidValue, Unlike
from keptedits.lists import SourceList, parting
from keptedits.maps import NumberMap, TextMap
from tests.helpers import (EqualToAll, KeptCase, drawn_list, drawn_map, drawn_value, odd_values, some_values)

SAME = NumberMap.same()
TEXT = TextMap.same()
FIELDS = ["u", "v", "w", "x"]


def always(value):
    """Return the map that takes all integers to a value."""
    return NumberMap.constant_map(value)


def plain_at(entries, end, document):
    """Return the value of given entries and an end at a document, told by the words of point 15."""
    present = [(field, mapping) for field, mapping in entries if field in document]
    return present[0][1].at(document[present[0][0]]) if present else end


def small_documents(fields, kind, most):
    """Yield all documents with at most so many of these fields, in the sequence of point 18."""
    for size in range(most + 1):
        for some in combinations(sorted(fields), size):
            for values in product(some_values(kind), repeat=size):
                yield dict(zip(some, values))


class MadeTest(KeptCase):
    def test_properties(self):
        first = SourceList("number", [("b", SAME), ("a", always(3))], 5)
        self.assertEqual((first.kind, first.end), ("number", 5))
        self.assertEqual(first.entries, (("b", SAME), ("a", always(3))))
        self.assertIs(type(first.entries), tuple)
        self.assertEqual(first.fields(), ["b", "a"])
        self.assertEqual(len(first), 2)
        empty = SourceList(kind="text", entries=(), end=None)
        self.assertEqual((empty.kind, empty.entries, empty.end, empty.fields(), len(empty)), ("text", (), None, [], 0))
        self.assertEqual(empty, SourceList("text"))

    def test_repr(self):
        self.assertEqual(repr(SourceList("number", [("len", SAME)], 5)),
                         "SourceList('number', (('len', NumberMap([(None, None, None)])),), 5)")
        self.assertEqual(repr(SourceList("text")), "SourceList('text', (), None)")

    def test_invalid_lists(self):
        for wrong in odd_values() + [1, "numbers"]:
            self.assert_error(InvalidList(-1), SourceList, wrong, [7])
        for wrong in odd_values() + [1, "a", {"a": SAME}]:
            if not isinstance(wrong, (list, tuple)):
                self.assert_error(InvalidList(-1), SourceList, "number", wrong)
        for wrong in odd_values() + ["a"]:
            if wrong is not None:
                self.assert_error(InvalidList(-1), SourceList, "number", [7], wrong)
        self.assert_error(InvalidList(-1), SourceList, "text", [7], 1)
        for wrong in odd_values() + [1, ("b",), ["b", SAME], ("b", SAME, 0), ("b", TEXT), ("a", SAME), ("", SAME),
                                     ("abcdefghi", SAME), ([], SAME), (EqualToAll(), SAME), ("b", EqualToAll())]:
            self.assert_error(InvalidList(1), SourceList, "number", (("a", SAME), wrong, 7), 3)

    def test_what_is_passed_and_returned_is_free(self):
        entries = [("a", SAME)]
        first = SourceList("number", entries)
        entries.append(("b", SAME))
        first.fields().append("c")
        self.assertEqual((first.entries, first.fields()), ((("a", SAME),), ["a"]))
        with self.assertRaises(AttributeError):
            first.end = 3


class NormalTest(KeptCase):
    def test_entries_that_say_what_the_end_says(self):
        entries = [("c", always(1)), ("b", SAME), ("a", always(5)), ("d", always(5))]
        self.assertEqual(SourceList("number", entries, 5).fields(), ["c", "b"])
        self.assertEqual(SourceList("number", entries, 1).fields(), ["c", "b", "a", "d"])
        self.assertEqual(SourceList("number", entries).fields(), ["c", "b", "a", "d"])
        self.assertEqual(SourceList("number", [("a", always(5)), ("b", always(5))], 5), SourceList("number", [], 5))
        self.assertEqual(SourceList("text", [("a", TextMap({"b": "c"}, "c"))], "c").entries, ())
        self.assertEqual(SourceList("number", [("a", always(0))]).fields(), ["a"])

    def test_constant_neighbours_are_sorted(self):
        entries = [("d", always(1)), ("b", always(1)), ("a", always(2)), ("f", SAME), ("e", SAME), ("c", always(1)),
                   ("g", always(2)), ("aa", always(2))]
        self.assertEqual(SourceList("number", entries).fields(), ["b", "d", "a", "f", "e", "c", "aa", "g"])
        self.assertEqual(SourceList("number", entries, 2).fields(), ["b", "d", "a", "f", "e", "c"])
        texts = [("b", TextMap({}, "z")), ("a", TextMap({"a": "z"}, "z")), ("c", TEXT)]
        self.assertEqual(SourceList("text", texts).fields(), ["a", "b", "c"])

    def test_equal_lists_are_equal_at_all_documents(self):
        draw = random.Random(8)
        for kind in ["number", "text"] * 200:
            one, other = drawn_list(draw, kind, FIELDS[:2]), drawn_list(draw, kind, FIELDS[:2])
            alike = all(one.at(document) == other.at(document) for document in small_documents(FIELDS[:2], kind, 2))
            self.assertIs(one == other, alike, (one, other))

    def test_the_normal_form_has_the_same_values(self):
        draw = random.Random(9)
        for kind in ["number", "text"] * 300:
            entries = [(field, drawn_map(draw, kind)) for field in draw.sample(FIELDS, draw.randint(0, 4))]
            end = draw.choice([None, drawn_value(draw, kind)])
            first = SourceList(kind, entries, end)
            self.assertEqual(SourceList(kind, first.entries, end), first)
            for _ in range(20):
                document = {field: drawn_value(draw, kind) for field in FIELDS if draw.random() < 0.4}
                self.assertEqual(first.at(document), plain_at(entries, end, document))


class ToldTest(KeptCase):
    def setUp(self):
        self.first = SourceList("number", [("b", SAME), ("a", always(3))], 5)
        self.open = SourceList("number", [("b", SAME)])

    def test_what_decides(self):
        for presence, told in [(["a"], "a"), (("a", "b"), "b"), ([], "="), (("c",), "="), (["c", "b"], "b")]:
            self.assertEqual(self.first.decider(presence), told)
        self.assertEqual(self.open.decider(presence=["b"]), "b")
        self.assertIs(self.open.decider(["a"]), None)
        self.assertIs(SourceList("text").decider(()), None)

    def test_values(self):
        self.assertEqual(self.first.at({"a": 8, "b": 7}), 7)
        self.assertEqual(self.first.at({"a": 8}), 3)
        self.assertEqual(self.first.at(document={"c": 8}), 5)
        self.assertIs(self.open.at({"a": 1}), None)
        for wrong in odd_values() + ["x"]:
            self.assert_error(InvalidValue(wrong), self.first.at, {"a": wrong})
            self.assert_error(InvalidValue(wrong), self.first.at, {"a": 1, "b": wrong})
            self.assertEqual(self.first.at({"a": wrong, "b": 1, "c": wrong}), 1)

    def test_is_always(self):
        five = SourceList("number", [("a", always(5))], 5)
        self.assertIs(five.is_always(5), True)
        self.assertIs(SourceList("number", [], 1).is_always(1), True)
        for wrong in odd_values() + [4, "a"]:
            self.assertIs(five.is_always(wrong), False)
            self.assertIs(SourceList("number", [], 1).is_always(wrong), False)
            self.assertIs(SourceList("number", [], 0).is_always(wrong), False)
            self.assertIs(self.first.is_always(wrong), False)
            self.assertIs(self.open.is_always(wrong), False)
            self.assertIs(SourceList("number").is_always(wrong), wrong is None)
        self.assertIs(SourceList("text").is_always(value=None), True)
        self.assertIs(SourceList("text", (), "a").is_always("a"), True)
        self.assertIs(SourceList("number", [("a", always(5))]).is_always(5), False)

    def test_fields_in_a_list(self):
        for wrong in odd_values() + ["c", "ab", 1]:
            self.assertIs(wrong in self.first, False)
        self.assertIs("a" in self.first, True)

    def test_equality(self):
        self.assertEqual(self.first, SourceList("number", self.first.entries, 5))
        for other in [self.open, SourceList("number", [("b", SAME), ("a", always(3))]), SourceList("text"), mock.ANY, (),
                      SourceList("number", [("a", always(3)), ("b", SAME)], 5)]:
            self.assertFalse(self.first == other)
        self.assertNotEqual(SourceList("number"), SourceList("text"))


class PartingTest(KeptCase):
    def test_least_documents(self):
        made = SourceList
        for one, other, told in [
            (made("number"), made("number"), None),
            (made("number", [("a", SAME)]), made("number", [], 1), {}),
            (made("number", [("b", SAME)]), made("number", [("a", SAME)]), {"a": 0}),
            (made("number", [("b", SAME), ("a", SAME)]), made("number", [("a", SAME), ("b", SAME)]), {"a": 0, "b": 1}),
            (made("number", [("a", SAME)], 0), made("number", [], 0), {"a": 1}),
            (made("number", [("a", NumberMap.cut(0, 9))], 0), made("number", [("a", SAME)], 0), {"a": -1}),
            (made("number", [("b", always(0)), ("a", SAME)]), made("number", [("a", SAME), ("b", always(0))]),
             {"a": 1, "b": 0}),
            (made("number", [("b", SAME), ("a", always(0))]), made("number", [("a", always(0)), ("b", SAME)]),
             {"a": 0, "b": 1}),
            (made("number", [("b", always(0)), ("a", always(1))]), made("number", [("a", always(1)), ("b", always(0))]),
             {"a": 0, "b": 0}),
            (made("text", [("b", TEXT), ("a", TEXT)]), made("text", [("a", TEXT), ("b", TEXT)]), {"a": "a", "b": "b"}),
            # The first pairs of fields do not part them: an end decides, and it says the same.
            (made("number", [("c", SAME)], 5), made("number", [("a", always(5)), ("b", always(5)), ("c", SAME)], 5),
             {"a": 0, "c": 0}),
            (made("text", [("c", TEXT)]), made("text", [("c", TEXT), ("b", TEXT)]), {"b": "a"}),
        ]:
            self.assertEqual(parting(one, other), told)
            self.assertEqual(parting(one=other, other=one), told)

    def test_unlike_lists(self):
        self.assert_error(Unlike(), parting, SourceList("number"), SourceList("text"))
        self.assert_error(Unlike(), parting, SourceList("text", [], "a"), SourceList("number", [], 1))

    def test_drawn_lists_against_small_documents(self):
        draw = random.Random(10)
        sizes = []
        for kind in ["number", "text"] * 400:
            one, other = drawn_list(draw, kind, FIELDS[:3]), drawn_list(draw, kind, FIELDS[:3])
            if draw.random() < 0.6:
                entries = [entry for entry in one.entries]
                draw.shuffle(entries)
                other = SourceList(kind, entries, one.end)
            documents = small_documents(FIELDS[:3], kind, 2)
            told = next((document for document in documents if one.at(document) != other.at(document)), None)
            self.assertEqual(parting(one, other), told, (one, other))
            self.assertIs(one == other, told is None)
            sizes.append(None if told is None else len(told))
        self.assertEqual({size for size in sizes}, {None, 0, 1, 2})


if __name__ == "__main__":
    unittest.main()

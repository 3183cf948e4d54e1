"""Tests of keptedits.marks: lists put before an edit and before a removal (points 26, 27 and 30)."""

import random
import unittest
from unittest import mock

from keptedits.errors import (InvalidList, InvalidValue, NotRemovable, NotSettable, UnknownOwn, UnknownProgram, Unlike)
from keptedits.lists import SourceList
from keptedits.maps import NumberMap, TextMap
from keptedits.marks import MarkedList, edited_list, removed_list
from keptedits.passes import edited, read
from keptedits.programs import Own, Program, Write
from keptedits.sets import Numbers, Texts
from keptedits.worlds import World
from tests.brute import all_own
from tests.helpers import EqualToAll, KeptCase, drawn_document, drawn_list, drawn_world, odd_values, some_values

SAME = NumberMap.same()
TEXT = TextMap.same()
LOW = NumberMap.cut(0, 9)


def always(value):
    """Return the map that takes all integers to a value."""
    return NumberMap.constant_map(value)


def numbers(entries=(), end=None):
    """Return a source list of numbers."""
    return SourceList("number", entries, end)


class ExampleCase(KeptCase):
    def setUp(self):
        own = {"x": Own("number", [("a", SAME)], settable=Numbers([(0, 20)]), removable=True),
               "y": Own("number", [("b", SAME), ("d", SAME)], default=7), "z": Own("number", [("c", SAME)], removable=True),
               "n": Own("text", settable=Texts.of("u", "v"))}
        writes = {"a": Write("x", LOW), "b": Write("y", SAME), "c": Write("z", SAME, leaves=True), "e": Write("x", SAME, leaves=True)}
        self.world = World({field: "number" for field in "abcde"} | {"w": "text"}, [Program("p", own, writes)])

    def marked(self, entries, end=None, own="x"):
        """Return the marked list of a list of numbers."""
        return edited_list(self.world, "p", own, numbers(entries, end))


class EditedListTest(ExampleCase):
    def test_an_entry_that_is_written_ends_the_list(self):
        found = self.marked([("c", LOW), ("a", NumberMap.cut(5, 30)), ("d", SAME)], 3)
        self.assertEqual((found.kind, found.entries, found.end), ("number", (("c", LOW),), None))
        self.assertEqual((found.mark, found.settable), (NumberMap.cut(5, 9), Numbers([(0, 20)])))
        self.assertIs(type(found), MarkedList)
        # A write that leaves ends the list, too.
        self.assertEqual(self.marked([("e", LOW), ("c", SAME)]).mark, LOW)
        self.assertEqual(self.marked([("e", LOW), ("c", SAME)]).entries, ())

    def test_a_mark_of_one_value_is_an_end(self):
        found = self.marked([("c", SAME), ("d", always(4)), ("a", always(4)), ("b", SAME)])
        self.assertEqual((found.entries, found.end, found.mark), ((("c", SAME),), 4, None))
        reset = NumberMap.reset(30, 40, 2)
        self.assertEqual((self.marked([("e", reset)]).end, self.marked([("e", reset)]).mark), (2, None))
        self.assertIs(self.marked([("e", NumberMap.reset(20, 40, 2))]).end, None)

    def test_lists_without_a_mark(self):
        found = self.marked([("d", SAME), ("c", always(6))], 6)
        self.assertEqual((found.entries, found.end, found.mark), ((("d", SAME),), 6, None))
        found = self.marked([("d", SAME), ("b", always(3)), ("a", SAME)])
        self.assertEqual((found.entries, found.end, found.mark), ((("d", SAME),), 3, None))
        empty = self.marked([("d", SAME)])
        self.assertEqual((empty.entries, empty.end, empty.mark), ((("d", SAME),), None, None))
        text = edited_list(self.world, "p", "x", SourceList("text", [("w", TEXT)], "k"))
        self.assertEqual((text.kind, text.entries, text.end, text.mark), ("text", (("w", TEXT),), "k", None))

    def test_entries_of_a_list_with_a_mark(self):
        # None is left out, and neighbours that take all values to one are sorted.
        found = self.marked([("d", always(1)), ("c", always(1)), ("a", SAME)])
        self.assertEqual(found.entries, (("c", always(1)), ("d", always(1))))
        self.assertEqual(found.mark, LOW)
        # A field that has stood earlier is left out: behind the pass b comes from b and d and has an end.
        found = self.marked([("d", SAME), ("b", LOW), ("a", SAME)])
        self.assertEqual((found.entries, found.end), ((("d", SAME), ("b", LOW)), 7))

    def test_texts(self):
        one = Program("one", {"x": Own("text", [("w", TEXT)], settable=Texts(["z"], others=True))},
                      {"w": Write("x", TextMap({"a": "b"}))})
        world = World({"w": "text"}, [one])
        found = edited_list(world, "one", "x", SourceList("text", [("w", TextMap({"b": "c"}))], "a"))
        self.assertEqual((found.mark, found.end), (TextMap({"a": "c", "b": "c"}), None))
        self.assertEqual([found.shows({}, value) for value in ("a", "b", "k")], ["c", "c", "k"])
        other = edited_list(world, "one", "x", SourceList("text", [("w", TextMap({"b": "c", "z": "a"}))]))
        self.assertTrue(found.alike(other) and found == other)
        self.assertNotEqual(found.mark, other.mark)

    def test_what_is_shown(self):
        found = self.marked([("c", LOW), ("a", SAME)])
        self.assertEqual([found.shows({"c": 12}, 3), found.shows({"a": 4}, 15), found.shows(document={}, value=2)], [9, 9, 2])
        self.assertEqual(self.marked([("c", LOW)], 5).shows({}, 3), 5)
        self.assertIs(self.marked([("c", LOW)]).shows({"a": 1}, 3), None)
        for wrong in odd_values() + [-1, 21, "a"]:
            self.assert_error(InvalidValue(wrong), found.shows, {"c": 1}, wrong)
            self.assert_error(InvalidValue(wrong), self.marked([]).shows, {}, wrong)

    def test_marked_lists_that_are_alike(self):
        first = self.marked([("c", LOW), ("a", SAME)])
        for other, told in [(self.marked([("c", LOW), ("a", NumberMap.cut(0, 15))]), True),
                            (self.marked([("c", LOW), ("a", NumberMap.cut(0, 8))]), False),
                            (self.marked([("a", SAME)]), False), (self.marked([("c", LOW)], 3), False),
                            (self.marked([("c", LOW), ("e", NumberMap.cut(-5, 9)), ("d", SAME)]), True)]:
            self.assertIs(first.alike(other), told)
            self.assertIs(first == other, told)
        self.assertIs(self.marked([], 3).alike(other=self.marked([("d", always(3))], 3)), True)
        self.assertIs(self.marked([], 3).alike(self.marked([], 4)), False)
        self.assertIs(self.marked([], 3).alike(self.marked([])), False)

    def test_unlike_lists(self):
        first = self.marked([])
        text = edited_list(self.world, "p", "n", numbers())
        for wrong in odd_values() + [1, numbers(), EqualToAll(), text]:
            self.assert_error(Unlike(), first.alike, wrong)
            if not isinstance(wrong, EqualToAll):
                self.assertFalse(first == wrong)
        self.assertFalse(first == mock.ANY)

    def test_errors(self):
        for call, wanted in [(edited_list, NotSettable("y")), (removed_list, NotRemovable("y"))]:
            self.assert_error(wanted, call, self.world, "p", "y", None)
            for wrong in odd_values() + [1, "a"]:
                self.assert_error(UnknownProgram(wrong), call, self.world, wrong, 7, 7)
                self.assert_error(UnknownOwn(wrong), call, self.world, "p", wrong, 7)
                self.assert_error(InvalidList(-1), call, self.world, "p", "x", wrong)
            self.assert_error(InvalidList(1), call, self.world, "p", "x", numbers([("a", SAME), ("w", SAME)]))
            self.assert_error(InvalidList(0), call, self.world, "p", "x", SourceList("text", [("gone", TEXT)]))
        self.assert_error(NotRemovable("n"), removed_list, self.world, "p", "n", None)
        self.assert_error(NotSettable("z"), edited_list, self.world, "p", "z", None)
        with self.assertRaises(AttributeError):
            self.marked([]).end = 3


class RemovedListTest(ExampleCase):
    def test_what_a_removal_leaves(self):
        for entries, end, told in [([("a", SAME), ("d", SAME)], 4, numbers([("d", SAME)], 4)),
                                   ([("a", SAME), ("e", LOW)], None, numbers()), ([("e", LOW)], 3, numbers([], 3)),
                                   ([("a", SAME), ("b", LOW), ("c", SAME)], 3, numbers([("b", LOW), ("d", LOW)], 7)),
                                   ([("c", SAME), ("d", always(3))], 3, numbers([("c", SAME)], 3))]:
            self.assertEqual(removed_list(self.world, "p", "x", numbers(entries, end)), told)
        self.assertEqual(removed_list(world=self.world, name="p", own="z", first=numbers([("c", SAME), ("a", SAME)])),
                         numbers([("a", LOW)]))


class DrawnTest(KeptCase):
    def test_lists_behind_edited_passes(self):
        draw = random.Random(60)
        marks = []
        for _ in range(400):
            world = drawn_world(draw)
            kind = draw.choice(sorted(set(world.fields().values())))
            first = drawn_list(draw, kind, [field for field, told in world.fields().items() if told == kind])
            for name, own in all_own(world):
                told = world.program(name).own_field(own)
                documents = [drawn_document(draw, world) for _ in range(8)]
                if not told.settable.is_empty:
                    found = edited_list(world, name, own, first)
                    marks.append(found.mark is not None)
                    values = [value for value in some_values(told.kind) if value in told.settable]
                    for document in documents:
                        for value in draw.sample(values, min(4, len(values))):
                            behind = edited(world, name, document, {own: value})
                            self.assertEqual(found.shows(document, value), first.at(behind))
                if told.removable:
                    found = removed_list(world, name, own, first)
                    for document in documents:
                        if own in read(world, name, document):
                            self.assertEqual(found.at(document), first.at(edited(world, name, document, {own: None})))
        self.assertEqual(set(marks), {True, False})

    def test_alike_lists_show_the_same(self):
        draw = random.Random(61)
        told = []
        for _ in range(800):
            world = drawn_world(draw)
            for name, own in all_own(world)[:2]:
                own_field = world.program(name).own_field(own)
                fields = [field for field, kind in world.fields().items() if kind == own_field.kind][:2]
                if own_field.settable.is_empty:
                    continue
                one, other = [edited_list(world, name, own, drawn_list(draw, own_field.kind, fields)) for _ in "ab"]
                documents = [{}] + [drawn_document(draw, world) for _ in range(25)]
                values = [value for value in some_values(own_field.kind) if value in own_field.settable]
                same = all(one.shows(document, value) == other.shows(document, value)
                           for document in documents for value in values)
                if one.alike(other):
                    self.assertIs(same, True)
                told.append((one.alike(other), same))
        self.assertIn((True, True), told)
        self.assertIn((False, False), told)
        self.assertLess(told.count((False, True)), len(told) // 10)


if __name__ == "__main__":
    unittest.main()

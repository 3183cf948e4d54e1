"""Tests of keptedits.graphs: list graphs, their rows, and rows that are alike (points 22 and 25)."""

import random
import unittest
from itertools import product
from unittest import mock

from keptedits.errors import InvalidList, InvalidRow, TooMany, UnknownList
from keptedits.graphs import ListGraph, alike, parting_rows
from keptedits.harms import harms, harms_here, is_safe, is_safe_here
from keptedits.lists import SourceList, parting
from keptedits.maps import NumberMap, TextMap
from keptedits.programs import Own, Program, Write
from keptedits.putting import field_list, over_row, own_list, put_back
from keptedits.reached import Beginnings, Reached
from keptedits.worlds import World
from tests.brute import behind_row, rows_up_to, small_documents
from tests.helpers import EqualToAll, KeptCase, drawn_list, drawn_world, odd_values

SAME = NumberMap.same()
TEXT = TextMap.same()
LOW = NumberMap.cut(0, 9)


def turning(*sizes):
    """Return a world in which a program turns texts in rings of these sizes, and one that does not."""
    ring = {}
    for at, size in enumerate(sizes):
        words = [chr(97 + at) + chr(97 + k // 25) + chr(97 + k % 25) for k in range(size)]
        ring.update({words[k]: words[(k + 1) % size] for k in range(size)})
    turn = Program("turn", {"x": Own("text", [("a", TEXT)])}, {"a": Write("x", TextMap(ring))})
    return World({"a": "text", "b": "number"}, [turn, Program("stay")])


class GraphTest(KeptCase):
    def setUp(self):
        cut = Program("cut", {"x": Own("number", [("a", LOW)])}, {"a": Write("x", SAME)})
        move = Program("move", {"x": Own("number", [("b", SAME), ("a", SAME)])}, {"b": Write("x", SAME), "a": None})
        back = Program("back", {"x": Own("number", [("b", SAME), ("a", SAME)])}, {"a": Write("x", SAME), "b": None})
        text = Program("text", {"n": Own("text", [("w", TEXT)], default="a")}, {"w": Write("n", TEXT)})
        self.world = World({"a": "number", "b": "number", "w": "text"}, [move, cut, text, back])
        self.first = SourceList("number", [("a", SAME)])

    def test_lists_and_rows(self):
        graph = ListGraph(self.world, self.first)
        wanted = [([], self.first), (["back"], SourceList("number", [("b", SAME), ("a", SAME)])),
                  (["cut"], SourceList("number", [("a", LOW)])), (["move"], SourceList("number")),
                  (["back", "cut"], SourceList("number", [("b", LOW), ("a", LOW)])),
                  (["cut", "back"], SourceList("number", [("b", SAME), ("a", LOW)])),
                  (["move", "back"], SourceList("number", [("b", SAME), ("a", SAME)]))]
        wanted = wanted[:6]
        self.assertEqual(list(graph.walk())[:6], wanted)
        self.assertEqual(graph.lists()[:6], [told for _, told in wanted])
        self.assertEqual(graph.rows()[:6], [row for row, _ in wanted])
        self.assertEqual((len(graph), len(graph.lists()), len(graph.rows())), (len(list(graph.walk())),) * 3)
        self.assertEqual((graph.first, graph.under), (self.first, ("back", "cut", "move", "text")))
        for row, told in wanted:
            self.assertEqual(graph.row_to(told), row)
            self.assertEqual(over_row(self.world, row, self.first), told)
            self.assertIs(told in graph, True)

    def test_programs(self):
        graph = ListGraph(world=self.world, first=self.first, programs=["cut", "back", "cut"])
        self.assertEqual((graph.under, len(graph)), (("back", "cut"), 5))
        self.assertNotIn(SourceList("number"), graph)
        alone = ListGraph(self.world, self.first, ())
        self.assertEqual((alone.under, alone.lists(), alone.rows()), ((), [self.first], [[]]))
        self.assertEqual(ListGraph(self.world, SourceList("text", [("w", TEXT)])).rows(), [[], ["text"]])

    def test_values_that_are_no_lists_of_the_graph(self):
        graph = ListGraph(self.world, self.first)
        for wrong in odd_values() + [1, mock.ANY, SourceList("text"), SourceList("number", [("b", LOW)]),
                                     SourceList("number", [("a", SAME)], 1), (), EqualToAll()]:
            self.assertIs(wrong in graph, False)
            self.assert_error(UnknownList(wrong), graph.row_to, wrong)

    def test_what_is_returned_is_free(self):
        graph = ListGraph(self.world, self.first)
        before = list(graph.walk())
        graph.rows()[1].append("x")
        graph.rows().clear()
        graph.lists().clear()
        graph.row_to(before[1][1]).append("x")
        for row, _ in graph.walk():
            row.append("x")
        self.assertEqual(list(graph.walk()), before)
        self.assertEqual(graph.row_to(before[1][1]), before[1][0])

    def test_errors(self):
        for wrong in odd_values() + [1, "a"]:
            self.assert_error(InvalidList(-1), ListGraph, self.world, wrong, 7)
            if wrong is not None and not isinstance(wrong, (list, tuple)):
                self.assert_error(InvalidRow(-1), ListGraph, self.world, self.first, wrong)
            self.assert_error(InvalidRow(1), ListGraph, self.world, self.first, ["cut", wrong, 7])
        self.assert_error(InvalidList(1), ListGraph, self.world, SourceList("number", [("a", SAME), ("w", SAME)]), 7)
        self.assert_error(InvalidList(0), ListGraph, self.world, SourceList("text", [("a", TEXT)]), ["gone"])

    def test_is_before(self):
        for one, other, told in [([], [], False), ([], ["a"], True), (["b"], ["a", "a"], True), (["a", "b"], ["b"], False),
                                 (["a", "b"], ["b", "a"], True), (["b"], ["a"], False), (("a",), ["b"], True)]:
            self.assertIs(ListGraph.is_before(one, other), told)

    def test_long_rows(self):
        first = SourceList("text", [("a", TEXT)])
        graph = ListGraph(turning(8, 3, 5, 25), first)
        self.assertEqual(len(graph), 600)
        self.assertEqual(graph.rows()[599], ["turn"] * 599)

    def test_the_most_lists(self):
        first = SourceList("text", [("a", TEXT)])
        for sizes, many in [((8, 7, 3, 17), 2856), ((16, 11, 17), 2992), ((8, 3, 125), 3000)]:
            self.assertEqual(len(ListGraph(turning(*sizes), first)), many)
        for sizes in [(8, 3, 5, 7, 11), (13, 16, 17)]:
            world = turning(*sizes)
            self.assert_error(TooMany("lists", 3000), ListGraph, world, first)
            self.assertEqual(len(ListGraph(world, first, ["stay"])), 1)
            self.assert_error(InvalidRow(0), ListGraph, world, first, ["gone"])
            self.assert_error(InvalidList(-1), ListGraph, world, None)

    def test_one_list_more(self):
        cut = Program("cut", {"x": Own("text", [("a", TextMap({}, "z"))])}, {"a": Write("x", TEXT)})
        world = turning(8, 3, 125).with_program(cut)
        self.assert_error(TooMany("lists", 3000), ListGraph, world, SourceList("text", [("a", TEXT)]))


class DrawnGraphTest(KeptCase):
    def test_drawn_graphs_against_rows(self):
        draw = random.Random(40)
        for _ in range(250):
            world = drawn_world(draw)
            kind = draw.choice(sorted(set(world.fields().values())))
            first = drawn_list(draw, kind, [field for field, told in world.fields().items() if told == kind])
            names = draw.choice([None, world.names()[:1], world.names()])
            graph = ListGraph(world, first, names)
            under = world.names() if names is None else names
            found = {}
            for row in rows_up_to(under, 4):
                told = over_row(world, row, first)
                found.setdefault(repr(told), row)
                self.assertIn(told, graph)
            short = [(row, told) for row, told in graph.walk() if len(row) <= 4]
            self.assertEqual([(row, repr(told)) for row, told in short], [(row, told) for told, row in found.items()])
            for row, told in graph.walk():
                self.assertEqual(graph.row_to(told), row)
                self.assertEqual(over_row(world, row, first), told)
                for name in under:
                    self.assertIn(put_back(world, name, told), graph)


class AlikeTest(KeptCase):
    def setUp(self):
        cut = Program("cut", {"x": Own("number", [("b", LOW)])}, {"b": Write("x", SAME)})
        move = Program("move", {"x": Own("number", [("a", SAME)], default=4)}, {"b": Write("x", SAME)})
        self.world = World({"a": "number", "b": "number", "w": "text"}, [cut, move])

    def test_rows(self):
        self.assertIs(alike(self.world, ["cut"], ("cut", "cut")), True)
        self.assertIs(alike(world=self.world, one=[], other=[]), True)
        self.assertIs(alike(self.world, ["cut", "move"], ["move"]), True)
        self.assertIs(alike(self.world, ["move", "cut"], ["move"]), False)
        self.assertIs(parting_rows(self.world, ["cut", "cut"], ["cut"]), None)
        self.assertEqual(parting_rows(self.world, ["move", "cut"], ["move"]), ("b", {"a": -1}))
        self.assertEqual(parting_rows(self.world, [], ["cut"]), ("b", {"b": -1}))
        self.assertEqual(parting_rows(world=self.world, one=["move"], other=[]), ("b", {}))

    def test_errors(self):
        for wrong in odd_values() + [1, "cut"]:
            for call in (alike, parting_rows):
                if not isinstance(wrong, (list, tuple)):
                    self.assert_error(InvalidRow(-1), call, self.world, wrong, 7)
                    self.assert_error(InvalidRow(-1), call, self.world, ["cut"], wrong)
                if wrong != "cut" or not isinstance(wrong, str):
                    self.assert_error(InvalidRow(1), call, self.world, ["cut", wrong, 7], 7)
                    self.assert_error(InvalidRow(0), call, self.world, [], [wrong])

    def test_drawn_rows(self):
        draw = random.Random(41)
        told = []
        for _ in range(120):
            world = drawn_world(draw)
            documents = list(small_documents(world, 2))
            documents = draw.sample(documents, min(150, len(documents)))
            for _ in range(4):
                one, other = [[draw.choice(world.names()) for _ in range(draw.randint(0, 3))] for _ in "ab"]
                parted = parting_rows(world, one, other)
                self.assertIs(alike(world, one, other), parted is None)
                apart = [document for document in documents
                         if behind_row(world, one, document) != behind_row(world, other, document)]
                told.append(parted is None)
                if parted is None:
                    self.assertEqual(apart, [])
                    continue
                field, document = parted
                for earlier in sorted(world.fields()):
                    lists = [over_row(world, row, field_list(world, earlier)) for row in (one, other)]
                    self.assertEqual(parting(*lists), None if earlier < field else document)
                    if earlier == field:
                        break
                here, there = [behind_row(world, row, document) for row in (one, other)]
                self.assertNotEqual(here.get(field), there.get(field))
        self.assertEqual(set(told), {True, False})


def three_programs(ring):
    """Return a world of three programs that turn texts: one in a ring, one in another one, and one just a text."""
    programs = []
    for name, exceptions in [("ring", ring), ("two", {"a": "b", "b": "a"}), ("one", {"a": "b"})]:
        programs.append(Program(name, {"f": Own("text", [("a", TEXT)])}, {"a": Write("f", TextMap(exceptions))}))
    return World({"a": "text", "b": "text"}, programs)


class AllFunctionsTest(KeptCase):
    """Lists with all functions of a few texts."""

    def test_more_than_3000_lists(self):
        world = three_programs({"a": "b", "b": "ab", "ab": "zz", "zz": "c", "c": "a"})
        here = Reached(world, Beginnings(documents=[{}]))
        for call in (lambda: ListGraph(world, own_list(world, "ring", "f")), lambda: harms(world, "two", "f"),
                     lambda: is_safe(world, "ring", "f", None), lambda: harms_here(here, "one", "f"),
                     lambda: is_safe_here(here, "one", "f")):
            self.assert_error(TooMany("lists", 3000), call)

    def test_256_lists(self):
        world = three_programs({"a": "b", "b": "ab", "ab": "zz", "zz": "a"})
        first = own_list(world, "ring", "f")
        graph = ListGraph(world, first)
        self.assertEqual((len(graph), len({repr(one) for one in graph.lists()})), (256, 256))
        for row, one in graph.walk():
            self.assertEqual(over_row(world, row, first), one)
            self.assertEqual(graph.row_to(one), row)
            for name in world.names():
                back = put_back(world, name, one)
                self.assertTrue(back in graph)
                self.assertFalse(ListGraph.is_before([name] + row, graph.row_to(back)))
        # All functions of four texts are there: each text may be taken to each one.
        texts = ["a", "b", "ab", "zz"]
        found = {tuple(one.at({"a": text}) for text in texts) for one in graph.lists()}
        self.assertEqual(found, set(product(texts, repeat=4)))
        self.assertEqual(harms(world, "two", "f"), [("changed", ["one"], {"a": "a"}, "a", "b")])


class StrangeListsTest(KeptCase):
    """Lists with maps and ends of which the world knows nothing."""

    def test_lists_beside_the_world(self):
        world = three_programs({"a": "b", "b": "a"})
        strange = SourceList("text", [("a", TextMap({"q": "r"}, "s")), ("b", TextMap({"a": "q"}))], "t")
        graph = ListGraph(world, strange)
        self.assertIn(strange, graph)
        for row, one in graph.walk():
            self.assertEqual(over_row(world, row, strange), one)
        for other in [SourceList("text", [("a", TextMap({"q": "x"}, "s")), ("b", TEXT)], "t"), SourceList("text", (), "x"), SourceList("text"),
                      SourceList("number"), SourceList("text", [("gone", TEXT)])]:
            self.assertNotIn(other, graph)
            self.assert_error(UnknownList(other), graph.row_to, other)
        numbers = World({"a": "number"}, [Program("cut", {"x": Own("number", [("a", LOW)])}, {"a": Write("x", SAME)})])
        first = SourceList("number", [("a", NumberMap([(None, -5, 7), (-4, 3, None), (4, None, -9)]))], 1000)
        graph = ListGraph(numbers, first)
        self.assertEqual(graph.rows(), [[], ["cut"]])
        self.assertEqual(graph.lists()[1], SourceList("number", [("a", NumberMap([(None, 0, 0), (1, 3, None), (4, None, -9)]))], 1000))
        for other in [SourceList("number", [("a", NumberMap([(None, -5, 7), (-4, 2, None), (3, None, -9)]))], 1000),
                      SourceList("number", [("a", NumberMap([(None, -5, 8), (-4, 3, None), (4, None, -9)]))], 1000)]:
            self.assertNotIn(other, graph)


if __name__ == "__main__":
    unittest.main()

"""Tests of keptedits.papers: papers and their check (point 45)."""

import random
import unittest

from keptedits.errors import NotRemovable, NotSettable, TooMany, UnknownOwn, UnknownProgram
from keptedits.graphs import ListGraph
from keptedits.harms import is_safe
from keptedits.lists import SourceList
from keptedits.maps import NumberMap, TextMap
from keptedits.marks import edited_list, removed_list
from keptedits.papers import is_kept_paper, is_safe_paper, is_seen_paper, kept_paper, safe_paper, seen_paper
from keptedits.programs import Own, Program, Write
from keptedits.putting import own_list, put_back
from keptedits.seen import echo, problem
from keptedits.sets import Numbers
from keptedits.worlds import World
from tests.brute import all_own
from tests.helpers import KeptCase, drawn_list, drawn_world, odd_values
from tests.test_graphs import turning

SAME = NumberMap.same()
LOW = NumberMap.cut(0, 9)
FULL = Numbers.full()


def own_look(world, first, lists, passes):
    """Tell by an own look whether lists are a paper."""
    if not isinstance(lists, (list, tuple)) or not all(isinstance(one, SourceList) for one in lists):
        return False
    if not all(world.fields().get(field) == one.kind for one in lists for field in one.fields()):
        return False
    closed = all(put_back(world, name, one) in list(lists) for one in lists for name in world.names())
    return first in list(lists) and closed and all(passes(one) for one in lists)


def sees(world, writer, edited, first):
    """Return what tells whether a list passes for an edit."""
    wanted = edited_list(world, writer, edited, first)

    def passes(one):
        found = edited_list(world, writer, edited, one)
        return found.mark is not None and not found.entries and found.alike(wanted)

    return passes


def keeps(world, writer, edited):
    """Return what tells whether a list passes for a removal."""
    return lambda one: not removed_list(world, writer, edited, one).entries


class ExampleTest(KeptCase):
    def setUp(self):
        own = {"x": Own("number", [("a", SAME)], settable=FULL, removable=True), "n": Own("text", [("w", TextMap.same())]),
               "e": Own("number", settable=FULL, removable=True)}
        one = Program("one", own, {"a": Write("x", SAME), "b": Write("x", SAME)})
        two = Program("two", {"x": Own("number", [("b", SAME), ("a", SAME)], settable=Numbers([(0, 5)]), removable=True)},
                      {"a": Write("x", SAME), "b": Write("x", SAME)})
        self.world = World({"a": "number", "b": "number", "w": "text"}, [one, two])
        self.first = own_list(self.world, "two", "x")
        self.graph = ListGraph(self.world, self.first).lists()

    def test_safe_papers(self):
        self.assertEqual(len(self.graph), 2)
        self.assertIsNone(safe_paper(self.world, "two", "x"))
        only = self.world.only("two")
        found = safe_paper(world=only, name="two", own="x")
        self.assertEqual(found, [self.first])
        self.assertIs(is_safe_paper(world=only, name="two", own="x", lists=found * 3), True)
        self.assertIs(is_safe_paper(only, "two", "x", tuple(found)), True)
        self.assertIs(is_safe_paper(self.world, "two", "x", found), False)
        self.assertIs(is_safe_paper(self.world, "two", "x", self.graph), False)
        self.assertIs(is_safe_paper(only, "two", "x", []), False)
        found.clear()
        self.assertEqual(len(safe_paper(only, "two", "x")), 1)

    def test_seen_papers(self):
        ask = {"world": self.world, "writer": "one", "edited": "x", "name": "two", "own": "x"}
        found = seen_paper(**ask)
        self.assertEqual(found, self.graph)
        self.assertIs(is_seen_paper(lists=found, **ask), True)
        self.assertIs(is_seen_paper(lists=tuple(reversed(found)) + (found[0],), **ask), True)
        for wrong in ([], found[:1], found[1:], found + [SourceList("number", [("a", LOW)])], found + [SourceList("number", (), 3)], found + [None],
                      found + [SourceList("number", [("c", SAME)])], found + [SourceList("text", [("w", TextMap.same())])], found[0], None, {"a": 1}):
            self.assertIs(is_seen_paper(lists=wrong, **ask), False)
        self.assertIsNone(seen_paper(self.world, "one", "e", "two", "x"))
        found.clear()
        self.assertEqual(seen_paper(**ask), self.graph)

    def test_kept_papers(self):
        ask = {"world": self.world, "writer": "two", "edited": "x", "name": "two", "own": "x"}
        found = kept_paper(**ask)
        self.assertEqual(found, self.graph)
        self.assertIs(is_kept_paper(lists=found, **ask), True)
        # A list of another kind may stand in it, if it passes.
        self.assertIs(is_kept_paper(lists=found + [SourceList("text", (), "q"), found[1]], **ask), True)
        self.assertIs(is_kept_paper(lists=found + [SourceList("text", [("w", TextMap.same())])], **ask), False)
        self.assertIs(is_kept_paper(lists=found + [SourceList("text", [("a", TextMap.same())])], **ask), False)
        self.assertIs(is_kept_paper(lists=found[:1], **ask), False)
        found.clear()
        self.assertEqual(kept_paper(**ask), self.graph)

    def test_a_removal_that_is_kept_without_a_paper(self):
        # The own field never has a value; the reader has another field that stays.
        self.assertIsNone(echo(self.world, "one", "e", "two", "x"))
        self.assertIsNone(kept_paper(self.world, "one", "e", "two", "x"))
        self.assertIs(is_kept_paper(self.world, "one", "e", "two", "x", self.graph), False)
        # Where all lists pass, there is one all the same.
        self.assertEqual(kept_paper(self.world, "one", "e", "one", "e"), [SourceList("number")])

    def test_values_that_are_no_papers(self):
        for wrong in odd_values() + [1, "ab", {self.first.kind: self.first}]:
            self.assertIs(is_safe_paper(self.world, "one", "n", wrong), False)
            self.assertIs(is_seen_paper(self.world, "one", "x", "two", "x", wrong), False)
            self.assertIs(is_kept_paper(self.world, "two", "x", "two", "x", wrong), False)
            self.assertIs(is_seen_paper(self.world, "one", "x", "two", "x", self.graph + [wrong]), False)
            self.assertIs(is_kept_paper(self.world, "two", "x", "two", "x", self.graph + [wrong]), False)
            self.assertIs(is_safe_paper(self.world.only("two"), "two", "x", [self.first, wrong]), False)

    def test_wrong_names(self):
        for wrong in odd_values() + ["gone", 1]:
            for call in (safe_paper, lambda *told: is_safe_paper(*told, 7)):
                self.assert_error(UnknownProgram(wrong), call, self.world, wrong, "gone")
                self.assert_error(UnknownOwn(wrong), call, self.world, "one", wrong)
            for call in (seen_paper, kept_paper, lambda *told: is_seen_paper(*told, 7), lambda *told: is_kept_paper(*told, 7)):
                self.assert_error(UnknownProgram(wrong), call, self.world, wrong, "gone", "gone", "gone")
                self.assert_error(UnknownOwn(wrong), call, self.world, "one", wrong, "gone", "gone")
                self.assert_error(UnknownProgram(wrong), call, self.world, "one", "n", wrong, "gone")
                self.assert_error(UnknownOwn(wrong), call, self.world, "one", "n", "one", wrong)
        for call in (seen_paper, lambda *told: is_seen_paper(*told, 7)):
            self.assert_error(NotSettable("n"), call, self.world, "one", "n", "one", "x")
        for call in (kept_paper, lambda *told: is_kept_paper(*told, 7)):
            self.assert_error(NotRemovable("n"), call, self.world, "one", "n", "one", "x")

    def test_too_many_lists(self):
        world = turning(8, 9, 25, 7)
        told = world.program("stay")
        world = world.with_program(Program("stay", {"e": Own("text", settable=None, removable=True)}, {}))
        self.assertNotEqual(told, world.program("stay"))
        self.assert_error(TooMany("lists", 3000), safe_paper, world, "turn", "x")
        self.assert_error(TooMany("lists", 3000), kept_paper, world, "stay", "e", "turn", "x")
        first = own_list(world, "turn", "x")
        self.assertIs(is_safe_paper(world, "turn", "x", [first]), False)
        self.assertIs(is_kept_paper(world, "stay", "e", "turn", "x", [first]), False)


class DrawnTest(KeptCase):
    def test_papers_of_drawn_worlds(self):
        counts = {True: 0, False: 0}
        for seed in range(80):
            draw = random.Random(seed)
            world = drawn_world(draw)
            for name, own in all_own(world):
                first = own_list(world, name, own)
                found = safe_paper(world, name, own)
                self.assertIs(found is not None, is_safe(world, name, own))
                self.check_lists(draw, world, first, found, lambda told: is_safe_paper(world, name, own, told), lambda one: one == first, counts)
                for writer, edited in all_own(world):
                    told = world.program(writer).own_field(edited)
                    if not told.settable.is_empty:
                        found = seen_paper(world, writer, edited, name, own)
                        self.assertIs(found is not None, problem(world, writer, edited, name, own) is None)
                        self.check_lists(draw, world, first, found, lambda told: is_seen_paper(world, writer, edited, name, own, told),
                                         sees(world, writer, edited, first), counts)
                    if told.removable:
                        found = kept_paper(world, writer, edited, name, own)
                        if told.sources or told.default is not None:
                            self.assertIs(found is not None, echo(world, writer, edited, name, own) is None)
                        self.check_lists(draw, world, first, found, lambda told: is_kept_paper(world, writer, edited, name, own, told),
                                         keeps(world, writer, edited), counts)
        self.assertGreater(min(counts.values()), 100)

    def check_lists(self, draw, world, first, paper, check, passes, counts):
        """Check whether some lists, that are nearly papers, are papers."""
        if paper is not None:
            self.assertIs(check(paper), True)
        graph = ListGraph(world, first).lists()
        kind = draw.choice(["number", "text"])
        fields = [field for field, told in world.fields().items() if told == kind]
        other = ListGraph(world, drawn_list(draw, kind, fields)).lists()
        for lists in (graph, graph[1:], graph[:-1], draw.sample(graph, len(graph)) + graph[:1], graph + other, graph + other[:1],
                      [SourceList("number", [("gone", SAME)])] + graph):
            if len(lists) < 30:
                wanted = own_look(world, first, lists, passes)
                self.assertIs(check(lists), wanted)
                counts[wanted] += 1


if __name__ == "__main__":
    unittest.main()

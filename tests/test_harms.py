"""Tests of keptedits.harms: kinds of harm, their rows and documents, and what is safe (points 23 and 24)."""

import random
import unittest
from itertools import combinations

from keptedits.errors import InvalidRow, InvalidValue, TooMany, UnknownOwn, UnknownProgram, Unlike
from keptedits.graphs import ListGraph
from keptedits.harms import KINDS, harm_kind, harms, harms_here, is_safe, is_safe_here, least_of_kind
from keptedits.lists import SourceList
from keptedits.maps import NumberMap, TextMap
from keptedits.programs import Own, Program, Write
from keptedits.putting import over_row, own_list
from keptedits.reached import Beginnings, Reached
from keptedits.sets import Numbers, natural
from keptedits.worlds import World
from tests.brute import all_own, drawn_reached, read_behind, rows_up_to, small_documents
from tests.helpers import KeptCase, drawn_list, drawn_world, odd_values
from tests.test_graphs import turning

SAME = NumberMap.same()
LOW = NumberMap.cut(0, 9)


def always(value):
    """Return the map that takes all integers to a value."""
    return NumberMap.constant_map(value)


def numbers(entries=(), end=None):
    """Return a source list of numbers."""
    return SourceList("number", entries, end)


def place(document):
    """Return what documents sort by, in the sequence of point 18."""
    fields = sorted(document)
    return len(fields), fields, [natural(document[field]) for field in fields]


class KindsTest(KeptCase):
    def test_the_kinds(self):
        self.assertEqual(KINDS, ("lost", "made", "changed", "taken", "filled", "reset", "moved"))
        self.assertIs(type(KINDS), tuple)

    def test_what_documents_show(self):
        both = numbers([("a", SAME), ("b", SAME)])
        for direct, behind, document, told in [
            (both, numbers(), {"a": 1}, "lost"), (numbers(), both, {"a": 1}, "made"), (both, both, {"a": 1}, None),
            (both, numbers(), {}, None), (both, numbers([("a", LOW)]), {"a": 12, "b": 3}, "changed"),
            (both, numbers([("b", SAME), ("a", SAME)]), {"a": 1, "b": 2}, "taken"),
            (both, numbers([("b", SAME), ("a", SAME)]), {"a": 2, "b": 2}, None),
            (numbers([], 4), numbers([("a", SAME)], 4), {"a": 1, "c": 0}, "filled"),
            (numbers([("a", SAME)], 4), numbers([], 5), {"a": 1}, "reset"),
            (numbers([("a", SAME)], 4), numbers([("a", SAME)], 5), {"b": 1}, "moved"),
            (numbers([("a", SAME)], 4), numbers([("a", SAME)]), {"b": 1}, "lost")]:
            self.assertEqual(harm_kind(direct, behind, document), told)
        self.assertEqual(harm_kind(direct=both, behind=numbers(), document={"b": 1}), "lost")

    def test_least_documents(self):
        both, turned = numbers([("a", SAME), ("b", SAME)]), numbers([("b", SAME), ("a", SAME)])
        for direct, behind, kind, told in [
            (both, turned, "taken", {"a": 0, "b": 1}), (both, turned, "changed", None), (both, numbers(), "lost", {"a": 0}),
            (both, numbers([], 3), "made", {}), (numbers([], 3), both, "lost", {}), (both, both, "lost", None),
            (both, numbers([("a", LOW), ("b", SAME)]), "changed", {"a": -1}),
            (numbers([], 0), numbers([("b", SAME)], 0), "filled", {"b": 1}),
            (numbers([("b", LOW)], 0), numbers([], 0), "reset", {"b": 1}),
            (numbers([("b", SAME)], 0), numbers([("b", SAME)], 4), "moved", {}),
            (numbers([("b", always(1)), ("a", LOW)]), numbers([("a", LOW), ("b", always(1))]), "taken", {"a": 0, "b": 0}),
            (numbers([("b", always(0)), ("a", LOW)]), numbers([("a", LOW), ("b", always(0))]), "taken", {"a": 1, "b": 0})]:
            self.assertEqual(least_of_kind(direct, behind, kind), told)
        self.assertEqual(least_of_kind(direct=both, behind=turned, kind="taken"), {"a": 0, "b": 1})

    def test_errors(self):
        text = SourceList("text", [("a", TextMap.same())])
        self.assert_error(Unlike(), harm_kind, numbers(), text, {})
        self.assert_error(Unlike(), harm_kind, text, numbers([], 1), {})
        self.assert_error(InvalidValue("x"), harm_kind, numbers([("a", SAME)]), numbers(), {"a": "x"})

    def test_drawn_lists_against_small_documents(self):
        draw = random.Random(50)
        seen = []
        for kind in ["number", "text"] * 40:
            world = World({"u": kind, "v": kind}, [])
            direct, behind = drawn_list(draw, kind, ["u", "v"]), drawn_list(draw, kind, ["u", "v"])
            found = {}
            for document in small_documents(world, 2):
                told = harm_kind(direct, behind, document)
                self.assertIs(told is None, direct.at(document) == behind.at(document))
                if told is not None:
                    found.setdefault(told, document)
            self.assertEqual({one: least_of_kind(direct, behind, one) for one in KINDS},
                             {one: found.get(one) for one in KINDS})
            seen += list(found)
        self.assertEqual(set(seen), set(KINDS))


class HarmsTest(KeptCase):
    def setUp(self):
        old = Program("old", {"size": Own("number", [("len", SAME)], default=5)},
                      {"len": Write("size", NumberMap.cut(0, 99))}, keeps=False)
        new = Program("new", {"size": Own("number", [("size", SAME), ("len", SAME)])},
                      {"size": Write("size", SAME), "len": None})
        self.world = World({"len": "number", "size": "number"}, [old, new])

    def test_harms(self):
        wanted = [("made", ["old"], {}, None, 5), ("changed", ["old"], {"len": -1}, -1, 0),
                  ("taken", ["old"], {"len": 0, "size": 1}, 1, 0), ("reset", ["old"], {"size": 0}, 0, 5)]
        self.assertEqual(harms(self.world, "new", "size"), wanted)
        self.assertEqual(harms(world=self.world, name="new", own="size", programs=("old",)), wanted)
        self.assertEqual(harms(self.world, "new", "size", ["new"]), [])
        self.assertEqual(harms(self.world, "old", "size"),
                         [("changed", ["old"], {"len": -1}, -1, 0), ("reset", ["new"], {"len": 0}, 0, 5)])

    def test_what_is_safe(self):
        self.assertIs(is_safe(self.world, "new", "size"), False)
        self.assertIs(is_safe(self.world, "new", "size", ["new"]), True)
        self.assertIs(is_safe(world=self.world, name="old", own="size", programs=()), True)
        self.assertEqual(harms(self.world, "old", "size", []), [])

    def test_safe_here_and_not_safe(self):
        # A program that writes an old and a new name for one own field, and one that knows the old name only.
        both = Program("both", {"x": Own("number", [("new", SAME), ("old", SAME)], settable=Numbers([(0, 9)]))},
                       {"new": Write("x", SAME), "old": Write("x", SAME)})
        late = Program("late", {"x": Own("number", [("old", SAME), ("new", SAME)])},
                       {"new": Write("x", SAME), "old": Write("x", SAME)})
        world = World({"new": "number", "old": "number"}, [both, late])
        reached = Reached(world, Beginnings(new=["both"]))
        self.assertIs(is_safe(world, "both", "x"), False)
        self.assertEqual(harms(world, "both", "x"), [("taken", ["late"], {"new": 0, "old": 1}, 0, 1)])
        self.assertIs(is_safe_here(reached, "both", "x"), True)
        self.assertEqual(harms_here(reached=reached, name="both", own="x"), [])
        wider = Reached(world, Beginnings(documents=[{"new": 1, "old": 2}]))
        self.assertEqual(harms_here(wider, "both", "x"),
                         [("taken", ["late"], (("document", 0), []), {"new": 1, "old": 2})])
        self.assertIs(is_safe_here(reached=wider, name="both", own="x"), False)
        self.assertIs(is_safe_here(Reached(world, Beginnings()), "both", "x"), True)
        everything = Reached(world, Beginnings(anything=True))
        self.assertEqual([one[:2] for one in harms_here(everything, "both", "x")], [("taken", ["late"])])

    def test_errors(self):
        reached = Reached(self.world, Beginnings(new=["old"]))
        for wrong in odd_values() + [1, "gone", "size"]:
            for call, first in [(harms, self.world), (is_safe, self.world), (harms_here, reached), (is_safe_here, reached)]:
                self.assert_error(UnknownProgram(wrong), call, first, wrong, 7)
                if wrong != "size" or not isinstance(wrong, str):
                    self.assert_error(UnknownOwn(wrong), call, first, "old", wrong)
            for call in (harms, is_safe):
                self.assert_error(UnknownOwn("len"), call, self.world, "old", "len", wrong)
                if wrong is not None and not isinstance(wrong, (list, tuple)):
                    self.assert_error(InvalidRow(-1), call, self.world, "old", "size", wrong)
                self.assert_error(InvalidRow(1), call, self.world, "old", "size", ["old", wrong, 7])

    def test_too_many_lists(self):
        world = turning(13, 16, 17)
        reached = Reached(world, Beginnings())
        for call, first in [(harms, world), (is_safe, world), (harms_here, reached), (is_safe_here, reached)]:
            self.assert_error(TooMany("lists", 3000), call, first, "turn", "x")
            self.assert_error(UnknownOwn("y"), call, first, "turn", "y")
        for call in (harms, is_safe):
            self.assert_error(InvalidRow(0), call, world, "turn", "x", ["gone"])
        self.assertIs(is_safe(world, "turn", "x", ["stay"]), True)


class DrawnTest(KeptCase):
    def test_harms_against_rows_and_documents(self):
        draw = random.Random(51)
        seen = []
        for _ in range(150):
            world = drawn_world(draw)
            documents = [draw.choice(list(small_documents(world, most))) for most in [1, 2] * 15]
            for name, own in all_own(world)[:2]:
                names = draw.choice([None, world.names()[:2]])
                told = harms(world, name, own, names)
                self.assertEqual([one[0] for one in told], [kind for kind in KINDS if kind in [one[0] for one in told]])
                self.assertIs(is_safe(world, name, own, names), not told)
                for kind, row, document, value, later in told:
                    seen.append(kind)
                    self.assertEqual(read_behind(world, [], document, name, own), value)
                    self.assertEqual(read_behind(world, row, document, name, own), later)
                    self.assertNotEqual(value, later)
                self.check_rows(world, name, own, world.names() if names is None else names, told, documents)
        self.assertEqual(set(seen), set(KINDS))

    def check_rows(self, world, name, own, names, told, documents):
        direct = own_list(world, name, own)
        firsts = {kind: row for kind, row, _, _, _ in told}
        for row in rows_up_to(names, 3):
            behind = over_row(world, row, direct)
            for kind, first, document, _, _ in told:
                least = least_of_kind(direct, behind, kind)
                self.assertTrue(least is None or not ListGraph.is_before(row, first))
                if row == first:
                    self.assertEqual(least, document)
            for document in documents:
                value, later = [read_behind(world, one, document, name, own) for one in ([], row)]
                kind = harm_kind(direct, behind, document)
                self.assertIs(kind is None, value == later)
                if kind is not None:
                    self.assertFalse(ListGraph.is_before(row, firsts[kind]))
                    self.assertLessEqual(place(least_of_kind(direct, behind, kind)), place(document))

    def test_harms_here_against_documents_that_come_about(self):
        draw = random.Random(52)
        seen = []
        for _ in range(200):
            world, beginnings, found = drawn_reached(draw)
            reached = Reached(world, beginnings)
            for name, own in all_own(world)[:2]:
                told = harms_here(reached, name, own)
                seen += [one[0] for one in told]
                self.assertEqual([one[0] for one in told], [kind for kind in KINDS if kind in [one[0] for one in told]])
                self.assertIs(is_safe_here(reached, name, own), not told)
                direct = own_list(world, name, own)
                wanted = {}
                for row, behind in ListGraph(world, direct).walk():
                    for one in found:
                        kind = harm_kind(direct, behind, dict(one))
                        if kind is not None:
                            wanted.setdefault(kind, row)
                self.assertEqual({one[0]: one[1] for one in told}, wanted)
                for kind, row, way, document in told:
                    self.assertEqual(reached.document_of(way), document)
                    self.assertEqual(harm_kind(direct, over_row(world, row, direct), document), kind)
        self.assertEqual(set(seen), set(KINDS))

    def test_safe_fields_of_all_documents(self):
        draw = random.Random(53)
        for _ in range(100):
            world = drawn_world(draw)
            reached = Reached(world, Beginnings(anything=True))
            for name, own in all_own(world):
                told = harms(world, name, own)
                self.assertEqual([one[:2] for one in harms_here(reached, name, own)], [one[:2] for one in told])
                for some in combinations(world.names(), 2):
                    if is_safe(world, name, own):
                        self.assertIs(is_safe(world, name, own, some), True)


if __name__ == "__main__":
    unittest.main()

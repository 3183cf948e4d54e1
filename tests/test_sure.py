"""Tests of keptedits.sure: values shown, what is sure, implied, always alike, and covers (point 21)."""

import random
import unittest
from itertools import combinations

from keptedits.errors import InvalidValue, UnknownOwn, UnknownProgram, Unlike
from keptedits.maps import NumberMap, TextMap
from keptedits.passes import read
from keptedits.programs import Own, Program, Write
from keptedits.reached import Beginnings, Reached
from keptedits.sets import Numbers, Texts
from keptedits.sure import always_alike, covers, implies, is_sure, shown, way_showing, way_unlike, way_without
from keptedits.worlds import World
from tests.brute import all_own, by_presence, drawn_reached
from tests.helpers import KeptCase, odd_values, some_values

SAME = NumberMap.same()
LOW = NumberMap.cut(0, 9)


class ToldTest(KeptCase):
    def setUp(self):
        old = Program("old", {"size": Own("number", [("len", SAME)], settable=Numbers([(0, 20)]), removable=True),
                              "name": Own("text", [("word", TextMap.same())], default="a")},
                      {"len": Write("size", SAME), "size": None})
        new = Program("new", {"size": Own("number", [("size", SAME), ("len", SAME)]), "low": Own("number", [("size", LOW)]),
                              "none": Own("number")}, {"size": Write("size", LOW), "len": None})
        self.world = World({"len": "number", "size": "number", "word": "text"}, [old, new])
        self.reached = Reached(self.world, Beginnings(documents=[{"len": 15}]))
        self.nothing = Reached(self.world, Beginnings())

    def test_presences_of_the_example(self):
        self.assertEqual(self.reached.presences(), [(), ("len",), ("size",)])

    def test_values_shown(self):
        self.assertEqual(shown(self.reached, "old", "size"), Numbers([(0, 20)]))
        self.assertEqual(shown(reached=self.reached, name="new", own="low"), Numbers([(0, 9)]))
        self.assertEqual(shown(self.reached, "old", "name"), Texts.of("a"))
        self.assertEqual(shown(self.reached, "new", "none"), Numbers())
        self.assertEqual(shown(self.nothing, "old", "name"), Texts())

    def test_what_is_sure(self):
        told = [is_sure(self.reached, name, own) for name, own in all_own(self.world)]
        self.assertEqual(told, [True, False, False, False, False])
        self.assertIs(way_without(self.reached, "old", "name"), None)
        for name, own in [("old", "size"), ("new", "low"), ("new", "none")]:
            document = self.reached.document_of(way_without(self.reached, name, own))
            self.assertNotIn(own, read(self.world, name, document))
        self.assertEqual([is_sure(self.nothing, name, own) for name, own in all_own(self.world)], [True] * 5)
        self.assertIs(way_without(self.nothing, "new", "none"), None)

    def test_ways_that_show_values(self):
        for value in (0, 15, 20):
            way = way_showing(self.reached, "old", "size", value)
            self.assertEqual(read(self.world, "old", self.reached.document_of(way))["size"], value)
        for value in (-1, 21):
            self.assertIs(way_showing(self.reached, "old", "size", value), None)
        way = way_showing(self.reached, "old", "name", "a")
        self.assertEqual(read(self.world, "old", self.reached.document_of(way))["name"], "a")
        self.assertIs(way_showing(self.reached, "old", "name", "b"), None)
        self.assertIs(way_showing(self.nothing, "old", "name", "a"), None)
        for wrong in odd_values() + ["a"]:
            self.assert_error(InvalidValue(wrong), way_showing, self.reached, "old", "size", wrong)
        self.assert_error(InvalidValue(1), way_showing, self.nothing, "old", "name", 1)

    def test_what_is_implied(self):
        self.assertIs(implies(self.reached, "new", "low", "new", "size"), True)
        self.assertIs(implies(self.reached, "new", "size", "new", "low"), False)
        self.assertIs(implies(self.reached, "new", "low", "old", "name"), True)
        self.assertIs(implies(self.reached, "old", "name", "new", "low"), False)
        self.assertIs(implies(self.reached, "new", "none", "new", "low"), True)
        self.assertIs(implies(self.nothing, "old", "name", "new", "none"), True)

    def test_what_is_always_alike(self):
        self.assertIs(always_alike(self.reached, "new", "low", "new", "size"), True)
        self.assertIs(always_alike(self.reached, "old", "size", "new", "size"), True)
        self.assertIs(always_alike(self.reached, "old", "size", "new", "none"), True)
        wider = Reached(self.world, Beginnings(documents=[{"size": 12}]))
        self.assertIs(always_alike(wider, "new", "low", "new", "size"), False)
        way = way_unlike(wider, "new", "low", "new", "size")
        self.assertEqual(wider.document_of(way), {"size": 12})
        self.assertIs(way_unlike(self.reached, "new", "low", "new", "size"), None)
        self.assertIs(always_alike(self.nothing, "new", "low", "new", "size"), True)

    def test_defaults_that_are_always_alike(self):
        one = Program("one", {"x": Own("number", default=3), "y": Own("number", [("a", LOW)], default=3),
                              "z": Own("number", default=4)})
        world = World({"a": "number"}, [one])
        reached = Reached(world, Beginnings(documents=[{}, {"a": 3}]))
        self.assertIs(always_alike(reached, "one", "x", "one", "y"), True)
        self.assertIs(always_alike(reached, "one", "x", "one", "z"), False)
        self.assertIs(way_unlike(reached, "one", "z", "one", "y") is None, False)
        other = Reached(world, Beginnings(documents=[{"a": 3}, {"a": 5}]))
        self.assertEqual(other.document_of(way_unlike(other, "one", "x", "one", "y")), {"a": 5})

    def test_covers(self):
        self.assertEqual(covers(self.reached, "old"), [("name",)])
        self.assertEqual(covers(self.reached, "new"), [])
        self.assertEqual(covers(reached=self.nothing, name="new"), [()])
        parts = Program("p", {"a": Own("number", [("u", SAME)]), "b": Own("number", [("v", SAME)]),
                              "c": Own("number", [("w", SAME)]), "d": Own("number", [("u", SAME), ("v", SAME)])})
        world = World({"u": "number", "v": "number", "w": "number"}, [parts, Program("q")])
        reached = Reached(world, Beginnings(documents=[{"u": 1, "w": 1}, {"v": 1}, {"v": 2, "w": 3}]))
        self.assertEqual(covers(reached, "p"), [("d",), ("a", "b"), ("b", "c")])
        self.assertEqual(covers(reached, "q"), [])

    def test_errors(self):
        for wrong in odd_values() + ["gone", "size", 1]:
            for call, more in [(shown, ()), (is_sure, ()), (way_without, ()), (way_showing, (None,))]:
                self.assert_error(UnknownProgram(wrong), call, self.reached, wrong, 7, *more)
                self.assert_error(UnknownOwn("len"), call, self.reached, "old", "len", *more)
                if wrong != "size" or not isinstance(wrong, str):
                    self.assert_error(UnknownOwn(wrong), call, self.reached, "old", wrong, *more)
            self.assert_error(UnknownProgram(wrong), covers, self.reached, wrong)
            for call in (implies, always_alike, way_unlike):
                self.assert_error(UnknownProgram(wrong), call, self.reached, wrong, 7, 7, 7)
                self.assert_error(UnknownProgram(wrong), call, self.reached, "old", "size", wrong, 7)
                self.assert_error(UnknownOwn("low"), call, self.reached, "old", "low", wrong, 7)
                self.assert_error(UnknownOwn("name"), call, self.reached, "old", "name", "new", "name")
        for call in (always_alike, way_unlike):
            self.assert_error(Unlike(), call, self.reached, "old", "name", "new", "low")
            self.assert_error(Unlike(), call, self.nothing, "old", "size", "old", "name")


class DrawnTest(KeptCase):
    def test_drawn_worlds(self):
        draw = random.Random(30)
        for _ in range(200):
            world, beginnings, found = drawn_reached(draw)
            reached = Reached(world, beginnings)
            readings = [(dict(one), {(name, own): read(world, name, dict(one)).get(own) for name, own in all_own(world)})
                        for one in found]
            for name, own in all_own(world):
                self.check_one(reached, name, own, readings)
                for other_name, other in all_own(world):
                    self.check_two(reached, (name, own), (other_name, other), readings)
            for name in world.names():
                self.check_covers(reached, name, found)

    def check_one(self, reached, name, own, readings):
        had = [told[(name, own)] for _, told in readings]
        values = shown(reached, name, own)
        self.assertEqual(values, type(values).of(*[value for value in had if value is not None]))
        self.assertIs(is_sure(reached, name, own), None not in had)
        way = way_without(reached, name, own)
        self.assertIs(way is None, None not in had)
        if way is not None:
            self.assertNotIn(own, read(reached.world, name, reached.document_of(way)))
        for value in some_values(values.kind):
            way = way_showing(reached, name, own, value)
            self.assertIs(way is not None, value in values)
            if way is not None:
                self.assertEqual(read(reached.world, name, reached.document_of(way))[own], value)

    def check_two(self, reached, one, other, readings):
        implied = all(told[other] is not None for _, told in readings if told[one] is not None)
        self.assertIs(implies(reached, *one, *other), implied)
        kinds = [reached.world.program(name).own_field(own).kind for name, own in (one, other)]
        if kinds[0] == kinds[1]:
            differing = [told for _, told in readings if None not in (told[one], told[other]) and told[one] != told[other]]
            self.assertIs(always_alike(reached, *one, *other), not differing)
            way = way_unlike(reached, *one, *other)
            self.assertIs(way is None, not differing)
            if way is not None:
                document = reached.document_of(way)
                here = read(reached.world, one[0], document)[one[1]]
                self.assertNotEqual(here, read(reached.world, other[0], document)[other[1]])

    def check_covers(self, reached, name, found):
        told = []
        own_fields = sorted(reached.world.program(name).own_fields())
        documents = [documents[0] for documents in by_presence(found).values()]
        for size in range(len(own_fields) + 1):
            for some in combinations(own_fields, size):
                if any(set(less) <= set(some) for less in told):
                    continue
                if all(set(read(reached.world, name, document)) & set(some) for document in documents):
                    told.append(some)
        self.assertEqual(covers(reached, name), told)


if __name__ == "__main__":
    unittest.main()

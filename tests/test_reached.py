"""Tests of keptedits.reached: beginnings, presences, values, pairs of values and ways (points 19 and 20)."""

import random
import unittest
from unittest import mock

from keptedits.errors import (InvalidBeginnings, InvalidDocument, InvalidPresence, InvalidStep, InvalidValue,
                              UnknownField, UnknownProgram, Unlike)
from keptedits.maps import NumberMap, TextMap
from keptedits.programs import Own, Program, Write
from keptedits.reached import Beginnings, Reached
from keptedits.sets import Numbers, Texts, full_set
from keptedits.worlds import World
from tests.brute import by_presence, drawn_beginnings, drawn_reached, told
from tests.helpers import (EqualToAll, KeptCase, drawn_document, drawn_edit, drawn_map, drawn_world, odd_values,
                           some_values)

SAME = NumberMap.same()
LOW = NumberMap.cut(0, 9)


def old_and_new(**more):
    """Return the world of two programs that read and write one number under two names."""
    old = Program("old", {"size": Own("number", [("len", SAME)], default=5, settable=Numbers([(0, 200)]))},
                  {"len": Write("size", NumberMap.cut(0, 99))}, keeps=False)
    new = Program("new", {"size": Own("number", [("size", SAME), ("len", SAME)], **more)},
                  {"size": Write("size", SAME), "len": None})
    return World({"len": "number", "size": "number", "word": "text"}, [old, new])


def twins():
    """Return a world with two fields that are written from one own field, and a third one."""
    both = Program("both", {"x": Own("number", [("a", SAME)], settable=Numbers([(0, 9)]), removable=True)},
                   {"a": Write("x", SAME), "b": Write("x", LOW)})
    other = Program("other", {"y": Own("number", [("c", SAME)], settable=Numbers.full())}, {"c": Write("y", SAME)})
    return World({"a": "number", "b": "number", "c": "number"}, [both, other])


class BeginningsTest(KeptCase):
    def test_properties(self):
        first = Beginnings(new=["old", "new"], documents=[{"len": 1}, {}], anything=True)
        self.assertEqual((first.new, first.documents(), first.anything), (("old", "new"), [{"len": 1}, {}], True))
        empty = Beginnings()
        self.assertEqual((empty.new, empty.documents(), empty.anything), ((), [], False))
        self.assertIs(type(empty.documents()), list)

    def test_equality(self):
        first = Beginnings(new=("old",), documents=({"len": 1},))
        self.assertEqual(first, Beginnings(new=["old"], documents=[{"len": 1}]))
        for other in [Beginnings(new=["old"]), Beginnings(documents=[{"len": 1}]), mock.ANY, 1,
                      Beginnings(new=["old"], documents=[{"len": 1}], anything=True)]:
            self.assertFalse(first == other)

    def test_what_is_passed_and_returned_is_free(self):
        document, names = {"len": 1}, ["old"]
        first = Beginnings(new=names, documents=[document])
        document["len"] = 2
        names.append("new")
        first.documents()[0]["len"] = 3
        first.documents().append({})
        self.assertEqual((first.new, first.documents()), (("old",), [{"len": 1}]))

    def test_invalid_beginnings(self):
        for wrong in odd_values() + [1, "old", {"old": 1}]:
            if not isinstance(wrong, (list, tuple)):
                self.assert_error(InvalidBeginnings("new", None), Beginnings, new=wrong, documents=7, anything=7)
                self.assert_error(InvalidBeginnings("documents", None), Beginnings, documents=wrong, anything=7)
            if wrong != "old" or not isinstance(wrong, str):
                self.assert_error(InvalidBeginnings("new", 1), Beginnings, new=["a", wrong, 7], documents=7)
            if not isinstance(wrong, dict):
                self.assert_error(InvalidBeginnings("documents", 1), Beginnings, documents=[{}, wrong, 7], anything=7)
            if not isinstance(wrong, bool):
                self.assert_error(InvalidBeginnings("anything", None), Beginnings, anything=wrong)
        self.assertEqual(len(Beginnings(documents=[{}] * 6).documents()), 6)
        self.assert_error(InvalidBeginnings("documents", None), Beginnings, documents=[{}] * 7)
        with self.assertRaises(TypeError):
            Beginnings(["old"])


class MadeTest(KeptCase):
    def test_errors(self):
        world = old_and_new()
        self.assert_error(UnknownProgram("gone"), Reached, world, Beginnings(new=["old", "gone", "far"], documents=[{1: 1}]))
        self.assert_error(InvalidDocument(None), Reached, world, Beginnings(new=["old"], documents=[{}, {"gone": 1}]))
        self.assert_error(InvalidDocument("len"), Reached, world, Beginnings(documents=[{"word": 1, "len": "a"}]))

    def test_properties(self):
        world, beginnings = old_and_new(), Beginnings(new=["old"])
        reached = Reached(world=world, beginnings=beginnings)
        self.assertEqual((reached.world, reached.beginnings), (world, beginnings))
        self.assertEqual(len(reached), 2)
        self.assertEqual(reached.presences(), [("len",), ("size",)])
        reached.presences().append(())
        self.assertEqual(reached.presences(), [("len",), ("size",)])

    def test_presences_are_tested_for_any_value(self):
        reached = Reached(old_and_new(), Beginnings(new=["old"]))
        for wrong in odd_values() + [(), ("len", "size"), ("word",), ["len"], "len", ("len", "len"), (EqualToAll(),)]:
            self.assertIs(wrong in reached, False)
        self.assertIs(("size",) in reached, True)

    def test_nothing_and_anything(self):
        world = old_and_new()
        nothing = Reached(world, Beginnings())
        self.assertEqual((len(nothing), nothing.presences(), () in nothing), (0, [], False))
        self.assertIs(nothing.way_to(()), None)
        everything = Reached(world, Beginnings(anything=True, documents=[{"len": 1}], new=["old"]))
        self.assertEqual(len(everything), 8)
        self.assertEqual(everything.presences()[:5], [(), ("len",), ("size",), ("word",), ("len", "size")])
        self.assertEqual(everything.values_of(("len", "word"), "word"), Texts.full())
        self.assertEqual(everything.values_of(("len", "word"), "size"), Numbers())
        self.assertIs(everything.can_part(("len", "size"), "len", SAME, "size", SAME), True)
        self.assertIs(everything.can_part(("len", "size"), "len", LOW, "len", SAME), True)
        self.assertIs(everything.can_part(("len",), "len", SAME, "size", LOW), False)
        way = everything.way_with(("len", "word"), "word", "ab")
        self.assertEqual((way[0][0], way[1]), ("any", []))
        self.assertEqual(everything.document_of(way)["word"], "ab")
        document = everything.document_of(everything.way_parting(("len", "size"), "size", SAME, "len", LOW))
        self.assertNotEqual(document["size"], LOW.at(document["len"]))

    def test_a_world_without_programs(self):
        reached = Reached(World({"a": "number", "b": "number"}), Beginnings(documents=[{"a": 1, "b": 1}, {"a": 7}]))
        self.assertEqual(reached.presences(), [("a",), ("a", "b")])
        self.assertEqual(reached.values_of(("a",), "a"), Numbers.of(7))
        self.assertIs(reached.can_part(("a", "b"), "a", SAME, "b", SAME), False)
        self.assertIs(reached.can_part(("a", "b"), "a", SAME, "b", NumberMap.constant_map(0)), True)
        self.assertEqual(reached.way_to(("a",)), (("document", 1), []))


class ToldTest(KeptCase):
    def setUp(self):
        self.world = old_and_new()
        self.reached = Reached(self.world, Beginnings(new=["old"]))

    def test_values(self):
        self.assertEqual(self.reached.values_of(("len",), "len"), Numbers([(0, 99)]))
        self.assertEqual(self.reached.values_of(presence=("size",), field="size"), Numbers([(0, 99)]))
        self.assertEqual(self.reached.values_of(("size",), "len"), Numbers())
        self.assertEqual(self.reached.values_of(("size",), "word"), Texts())
        self.assertEqual(self.reached.values_of(("len", "size"), "len"), Numbers())

    def test_ways(self):
        for presence, steps in [(("len",), 0), (("size",), 1)]:
            way = self.reached.way_to(presence)
            self.assertEqual(len(way[1]), steps)
            self.assertEqual(tuple(self.reached.document_of(way)), presence)
        self.assertIs(self.reached.way_to(presence=()), None)
        way = self.reached.way_with(presence=("size",), field="size", value=42)
        self.assertEqual(self.reached.document_of(way), {"size": 42})
        self.assertIs(self.reached.way_with(("size",), "size", 100), None)
        self.assertIs(self.reached.way_with(("size",), "len", 1), None)
        self.assertIs(self.reached.way_with(("len", "size"), "len", 1), None)
        self.assertIs(self.reached.way_with(("size",), "word", "a"), None)

    def test_errors(self):
        wrong_presences = odd_values() + [["len"], "len", ("size", "len"), ("len", "len"), ("gone",), ("len", EqualToAll())]
        for wrong in [one for one in wrong_presences if one != ()]:
            self.assert_error(InvalidPresence(wrong), self.reached.values_of, wrong, 7)
            self.assert_error(InvalidPresence(wrong), self.reached.way_to, wrong)
            self.assert_error(InvalidPresence(wrong), self.reached.way_with, wrong, 7, 1.0)
            self.assert_error(InvalidPresence(wrong), self.reached.can_part, wrong, 7, 7, 7, 7)
            self.assert_error(InvalidPresence(wrong), self.reached.way_parting, wrong, 7, 7, 7, 7)
        for wrong in odd_values() + ["gone", "old", 1]:
            self.assert_error(UnknownField(wrong), self.reached.values_of, (), wrong)
            self.assert_error(UnknownField(wrong), self.reached.way_with, (), wrong, None)
            for call in (self.reached.can_part, self.reached.way_parting):
                self.assert_error(UnknownField(wrong), call, (), wrong, 7, 7, 7)
                self.assert_error(UnknownField(wrong), call, (), "len", 7, wrong, 7)
        for wrong in odd_values() + ["a"]:
            self.assert_error(InvalidValue(wrong), self.reached.way_with, ("len",), "len", wrong)
        self.assert_error(InvalidValue(1), self.reached.way_with, (), "word", 1)

    def test_unlike_maps_and_fields(self):
        text = TextMap.same()
        for wrong in [("len", SAME, "word", SAME), ("len", SAME, "word", text), ("len", text, "size", SAME),
                      ("len", SAME, "size", text), ("word", SAME, "word", SAME), ("len", None, "len", SAME),
                      ("len", EqualToAll(), "len", SAME), ("len", SAME, "size", Numbers())]:
            self.assert_error(Unlike(), self.reached.can_part, (), *wrong)
            self.assert_error(Unlike(), self.reached.way_parting, ("len",), *wrong)

    def test_repeated_queries(self):
        first = Reached(self.world, Beginnings(new=["old", "new"], documents=[{"len": 4, "size": 8, "word": "a"}]))
        for _ in range(2):
            asked = [first.way_with(("len",), "len", 3), first.can_part(("size",), "size", SAME, "size", LOW)]
            asked.append(first.way_parting(("len", "size"), "len", SAME, "size", SAME))
            self.assertEqual(asked, [first.way_with(("len",), "len", 3), True,
                                     first.way_parting(("len", "size"), "len", SAME, "size", SAME)])


class EditsTest(KeptCase):
    def test_values_of_one_origin(self):
        world = twins()
        reached = Reached(world, Beginnings(new=["both"]))
        self.assertEqual(reached.presences(), [(), ("c",), ("a", "b"), ("a", "b", "c")])
        # Both fields are written from one own field, so they are alike; a third one is free.
        self.assertIs(reached.can_part(("a", "b"), "a", SAME, "b", SAME), False)
        self.assertIs(reached.can_part(("a", "b"), "a", NumberMap.cut(0, 8), "b", SAME), True)
        self.assertIs(reached.can_part(("a", "b", "c"), "c", SAME, "b", SAME), True)
        way = reached.way_parting(("a", "b", "c"), one="c", first=SAME, other="b", second=SAME)
        document = reached.document_of(way)
        self.assertNotEqual(document["b"], document["c"])
        self.assertIs(reached.way_parting(("a", "b"), "b", SAME, "a", LOW), None)
        wider = Reached(world, Beginnings(new=["both"], documents=[{"a": 20}]))
        self.assertIs(wider.can_part(("a", "b"), "a", SAME, "b", SAME), True)
        self.assertEqual(wider.document_of(wider.way_parting(("a", "b"), "a", SAME, "b", SAME)), {"a": 20, "b": 9})

    def test_a_given_value_that_is_read_is_a_pass(self):
        leaving = Program("p", {"x": Own("number", [("a", SAME)], removable=True)}, {"b": Write("x", SAME, leaves=True)})
        world = World({"a": "number", "b": "number"}, [leaving])
        # Without a value nothing is removed, so the write leaves; with one, the removal takes the field away.
        still = Reached(world, Beginnings(documents=[{"b": 3}]))
        self.assertEqual(still.presences(), [("b",)])
        gone = Reached(world, Beginnings(documents=[{"a": 1, "b": 3}]))
        self.assertEqual(gone.presences(), [("a",), ("a", "b")])
        self.assertEqual(gone.values_of(("a", "b"), "b"), Numbers.of(1, 3))
        self.assertEqual(gone.document_of((("document", 0), [("p", {"x": None})])), {"a": 1})

    def test_new_documents_without_and_with_an_edit(self):
        own = {"x": Own("number", settable=Numbers.of(4, 6)), "y": Own("number", default=1, removable=True)}
        world = World({"a": "number", "b": "number"}, [Program("p", own, {"a": Write("x", LOW), "b": Write("y", LOW)})])
        reached = Reached(world, Beginnings(new=["p"]))
        self.assertEqual(reached.presences(), [(), ("a",), ("b",), ("a", "b")])
        self.assertEqual([len(reached.way_to(presence)[1]) for presence in reached.presences()], [0, 0, 0, 0])
        self.assertEqual(reached.values_of(("a", "b"), "a"), Numbers.of(4, 6))
        self.assertEqual(reached.document_of((("new", "p", {"x": 4, "y": None}), ())), {"a": 4})


class DocumentOfTest(KeptCase):
    def setUp(self):
        self.world = old_and_new(removable=True)
        self.reached = Reached(self.world, Beginnings(new=["old"], documents=[{"size": 3}, {"word": "a"}]))

    def test_ways_that_are_accepted(self):
        for way, document in [((("new", "old", {}), []), {"len": 5}), ((("new", "old", {"size": 150}), ()), {"len": 99}),
                              ((("document", 1), []), {"word": "a"}),
                              ((("document", 0), [("new", {"size": None}), ("old", {"size": 8})]), {"len": 8}),
                              ((("new", "old", {}), [("new", {})]), {"size": 5})]:
            self.assertEqual(self.reached.document_of(way=way), document)
        everything = Reached(self.world, Beginnings(anything=True))
        self.assertEqual(everything.document_of((("any", {"len": 1, "word": "b"}), [("new", {})])), {"size": 1, "word": "b"})

    def test_ways_that_are_refused(self):
        beginnings = odd_values() + [
            "new", ["new", "old", {}], ("new", "old"), ("new", "old", None), ("new", "new", {}), ("new", "gone", {}),
            ("new", "old", {"size": 300}), ("new", "old", {"size": None}), ("new", "old", {}, 1), ("new", ["old"], {}),
            ("new", "old", [("size", 1)]), ("new", EqualToAll(), {}), (EqualToAll(), "old", {}), ("document", 2),
            ("document", -1), ("document", True), ("document", "0"), ("document", None), ("document",),
            ("document", 0, 0), ("document", {"size": 3}), ("any", {}), ("any", {"size": 3}), ("old", {}), (1, 0),
            ("document", EqualToAll())]
        for wrong in beginnings:
            self.assert_error(InvalidStep(-1), self.reached.document_of, (wrong, []))
        steps = [one for one in odd_values() if one != ()] + [
            "old", {"old": {}}, [("old",)], [["old", {}]], [("gone", {})], [("old", None)], [("old", {"size": 300})],
            [("old", {}), ("new", {"size": 1})], [("old", {}, 1)], [EqualToAll()], [("old", {"gone": 1})], None]
        for wrong in steps:
            self.assert_error(InvalidStep(-1), self.reached.document_of, (("document", 0), wrong))
        for wrong in odd_values() + [(("document", 0),), [("document", 0), []], (("document", 0), [], []), "ab", EqualToAll()]:
            self.assert_error(InvalidStep(-1), self.reached.document_of, wrong)

    def test_any_documents_that_are_refused(self):
        everything = Reached(self.world, Beginnings(anything=True))
        for wrong in odd_values() + [{"gone": 1}, {"len": "a"}, {"len": True}, [("len", 1)]]:
            if wrong != {}:
                self.assert_error(InvalidStep(-1), everything.document_of, (("any", wrong), []))
        for wrong in [("any",), ("any", {}, {}), ("document", 0), ("new", "old", {}), ("old", {}), ("Any", {}), ("", {})]:
            self.assert_error(InvalidStep(-1), everything.document_of, (wrong, []))

    def test_the_told_document_is_free(self):
        everything = Reached(self.world, Beginnings(anything=True))
        document = {"len": 1}
        everything.document_of((("any", document), []))["len"] = 2
        self.assertEqual(document, {"len": 1})
        self.reached.document_of((("document", 0), [])).clear()
        self.assertEqual(self.reached.document_of((("document", 0), [])), {"size": 3})


class DrawnTest(KeptCase):
    def test_presences_and_fewest_steps(self):
        draw = random.Random(20)
        for _ in range(250):
            world, beginnings, found = drawn_reached(draw)
            reached = Reached(world, beginnings)
            grouped = by_presence(found)
            self.assertEqual(reached.presences(), sorted(grouped, key=lambda one: (len(one), one)))
            for presence, documents in grouped.items():
                way = reached.way_to(presence)
                self.assertEqual(tuple(sorted(reached.document_of(way))), presence)
                self.assertEqual(len(way[1]), min(found[told(document)] for document in documents))

    def test_values(self):
        draw = random.Random(21)
        for _ in range(250):
            world, beginnings, found = drawn_reached(draw)
            reached = Reached(world, beginnings)
            for presence, documents in by_presence(found).items():
                for field in presence:
                    values = reached.values_of(presence, field)
                    self.assertEqual(values, type(values).of(*[document[field] for document in documents]))
                    for value in some_values(values.kind):
                        way = reached.way_with(presence, field, value)
                        self.assertIs(way is not None, value in values)
                        if way is not None:
                            document = reached.document_of(way)
                            self.assertEqual((tuple(sorted(document)), document[field]), (presence, value))

    def test_pairs_of_values(self):
        draw = random.Random(22)
        parted = []
        for _ in range(300):
            world, beginnings, found = drawn_reached(draw)
            reached = Reached(world, beginnings)
            for presence, documents in by_presence(found).items():
                for one in presence:
                    for other in presence:
                        if world.kind_of_field(one) == world.kind_of_field(other):
                            parted.append(self.check_pair(draw, reached, presence, one, other, documents))
        self.assertEqual(set(parted), {True, False})

    def check_pair(self, draw, reached, presence, one, other, documents):
        kind = reached.world.kind_of_field(one)
        first = drawn_map(draw, kind)
        second = first if draw.random() < 0.5 else drawn_map(draw, kind)
        parts = any(first.at(document[one]) != second.at(document[other]) for document in documents)
        self.assertIs(reached.can_part(presence, one, first, other, second), parts)
        way = reached.way_parting(presence, one, first, other, second)
        self.assertIs(way is not None, parts)
        if way is not None:
            document = reached.document_of(way)
            self.assertEqual(tuple(sorted(document)), presence)
            self.assertNotEqual(first.at(document[one]), second.at(document[other]))
        return parts

    def test_wide_sets(self):
        draw = random.Random(23)
        for _ in range(150):
            world = drawn_world(draw)
            reached = Reached(world, drawn_beginnings(draw, world))
            for presence in reached.presences():
                for field in presence:
                    values = reached.values_of(presence, field)
                    outside = full_set(values.kind).without(values)
                    for value in [values.least()] + [value for value in some_values(values.kind) if value in values]:
                        self.assertEqual(reached.document_of(reached.way_with(presence, field, value))[field], value)
                    if not outside.is_empty:
                        self.assertIs(reached.way_with(presence, field, outside.least()), None)

    def test_all_steps_stay_within(self):
        draw = random.Random(24)
        for _ in range(150):
            world = drawn_world(draw)
            document = drawn_document(draw, world)
            reached = Reached(world, Beginnings(documents=[document]))
            steps = []
            for _ in range(12):
                name = draw.choice(world.names())
                steps.append((name, drawn_edit(draw, world, name)))
                behind = reached.document_of((("document", 0), steps))
                presence = tuple(sorted(behind))
                self.assertIn(presence, reached)
                for field in presence:
                    self.assertIn(behind[field], reached.values_of(presence, field))


class LargeTest(KeptCase):
    def test_pairs_that_come_from_several_pairs(self):
        draw = random.Random(25)
        for _ in range(40):
            programs = []
            for name in "pqr":
                own = {one: Own("number", [(field, drawn_map(draw, "number")) for field in draw.sample("abcd", 3)])
                       for one in "xyz"}
                writes = {field: Write(draw.choice("xyz"), drawn_map(draw, "number")) for field in draw.sample("abcd", 3)}
                programs.append(Program(name, own, writes, keeps=draw.random() < 0.8))
            world = World({field: "number" for field in "abcd"}, programs)
            documents = [{field: draw.randint(-9, 9) for field in "abcd"} for _ in range(6)]
            reached = Reached(world, Beginnings(documents=documents))
            for presence in reached.presences():
                for one in presence:
                    for other in presence:
                        maps = [draw.choice([SAME, SAME, drawn_map(draw, "number")]) for _ in "ab"]
                        way = reached.way_parting(presence, one, maps[0], other, maps[1])
                        self.assertIs(way is not None, reached.can_part(presence, one, maps[0], other, maps[1]))
                        if way is not None:
                            document = reached.document_of(way)
                            self.assertEqual(tuple(sorted(document)), presence)
                            self.assertNotEqual(maps[0].at(document[one]), maps[1].at(document[other]))

    def test_eight_fields_and_programs(self):
        fields, programs = "abcdefgh", []
        for k, name in enumerate("pqrstuvw"):
            own = {one: Own("number", [(fields[(i + j + k) % 8], NumberMap.cut(-i, 9 + k)) for i in range(8)],
                            settable=Numbers([(-j, 20)]), removable=True) for j, one in enumerate("wxyz")}
            writes = {fields[i]: Write("wxyz"[(i + k) % 4], NumberMap.cut(-k, 8 + i)) for i in range(k, 8)}
            programs.append(Program(name, own, writes))
        world = World({field: "number" for field in fields}, programs)
        reached = Reached(world, Beginnings(new=["p"]))
        self.assertGreater(len(reached), 30)
        for presence in reached.presences()[-20:]:
            way = reached.way_parting(presence, presence[0], SAME, presence[-1], LOW)
            self.assertIs(way is not None, reached.can_part(presence, presence[0], SAME, presence[-1], LOW))
            if way is not None:
                document = reached.document_of(way)
                self.assertNotEqual(document[presence[0]], LOW.at(document[presence[-1]]))


if __name__ == "__main__":
    unittest.main()

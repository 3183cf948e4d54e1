"""Tests of keptedits.wishes: wishes and their faults (point 31)."""

import random
import unittest

from keptedits.errors import (InvalidChoice, InvalidDocument, InvalidWish, TooMany, UnknownProgram, Unlike)
from keptedits.graphs import ListGraph
from keptedits.harms import harm_kind
from keptedits.lists import parting
from keptedits.maps import NumberMap, TextMap
from keptedits.passes import read
from keptedits.programs import Own, Program, Write
from keptedits.putting import own_list
from keptedits.reached import Beginnings, Reached
from keptedits.seen import echo, echo_here, problem, problem_here
from keptedits.sets import Numbers, Texts
from keptedits.sure import always_alike, is_sure, shown
from keptedits.wishes import Wishes
from keptedits.worlds import World
from tests.brute import all_own, drawn_beginnings, drawn_reached, small_documents
from tests.helpers import EqualToAll, KeptCase, drawn_numbers, drawn_texts, drawn_world, odd_values
from tests.test_graphs import turning

SAME = NumberMap.same()
LOW = NumberMap.cut(0, 9)


def example(**more):
    """Return a world of an old and a new program."""
    old = Program("old", {"size": Own("number", [("len", SAME)], default=5, settable=Numbers([(0, 200)])),
                          "name": Own("text", [("word", TextMap.same())], removable=True)},
                  {"len": Write("size", NumberMap.cut(0, 99))}, keeps=False)
    own = {"size": Own("number", [("size", SAME), ("len", SAME)], **more), "low": Own("number", [("size", LOW)])}
    return World({"len": "number", "size": "number", "word": "text"},
                 [old, Program("new", own, {"size": Write("size", SAME), "len": None})])


class MadeTest(KeptCase):
    def setUp(self):
        self.world = example(settable=Numbers.full(), removable=True)
        self.wishes = [("safe", "new", "size"), ("safe here", "old", "name"), ("seen", "old", "size", "new", "size"),
                       ("seen here", "new", "size", "old", "size"), ("kept", "old", "name", "new", "low"),
                       ("kept here", "new", "size", "old", "size"), ("sure", "old", "size"),
                       ("within", "new", "low", Numbers([(0, 9)])), ("alike", "old", "size", "new", "low"),
                       ("as", "new", "low"), ("within", "old", "name", Texts()), ("as", "new", "low")]

    def test_properties(self):
        beginnings = Beginnings(new=["old"])
        made = Wishes(world=self.world, wishes=self.wishes, beginnings=beginnings)
        self.assertEqual((made.world, made.beginnings, len(made)), (self.world, beginnings, 12))
        self.assertEqual(made.all_wishes(), self.wishes)
        self.wishes.pop()
        made.all_wishes().clear()
        self.assertEqual(len(made.all_wishes()), 12)
        self.assertEqual(Wishes(self.world, (), beginnings).all_wishes(), [])

    def test_invalid_wishes(self):
        for wrong in odd_values() + ["safe", {"a": 1}, 1, self.wishes + [("sure", "old", "size")]]:
            if not isinstance(wrong, (list, tuple)) or len(wrong) > 12:
                self.assert_error(InvalidWish(-1), Wishes, self.world, wrong, Beginnings(new=["gone"]))
        wrong_wishes = odd_values() + [1, "safe", ("safe",), ["safe", "new", "size"], ("safe", "new"), ("Safe", "new", "size"),
                                       ("safe", "new", "gone"), ("safe", "gone", "size"), ("safe", "new", "size", 1),
                                       ("seen", "new", "low", "new", "size"), ("seen", "old", "name", "new", "size"),
                                       ("seen", "old", "size", "new", "gone"), ("seen", "old", "size", "new"),
                                       ("seen here", "new", "low", "old", "size"), ("kept", "old", "size", "new", "size"),
                                       ("kept here", "new", "low", "new", "size"), ("kept", "old", "name", "new"),
                                       ("sure", "new"), ("sure", "new", "low", "low"), ("within", "new", "low"),
                                       ("within", "new", "low", Texts()), ("within", "new", "low", [(0, 9)]),
                                       ("within", "new", "low", Numbers(), 1), ("alike", "old", "size", "old", "name"),
                                       ("alike", "old", "size", "new"), ("as", "new", "low", "old", "size"), ("as", "new"),
                                       ("hoped", "new", "low", "old", "size"), ("hoped", "new", "low"), ()]
        for wrong in wrong_wishes:
            self.assert_error(InvalidWish(1), Wishes, self.world, [("sure", "old", "size"), wrong, 7], Beginnings())
        for wrong in odd_values() + ["gone", 1]:
            for wish in [(wrong, "new", "size"), ("safe", wrong, "size"), ("safe", "new", wrong), (wrong, "new", "low", "old", "size"),
                         ("seen", "old", "size", wrong, "size"), ("seen", "old", "size", "new", wrong),
                         ("within", "new", "low", wrong), ("kept", wrong, "name", "new", "size"), ("alike", "old", "size", wrong, "low")]:
                if not isinstance(wrong, Numbers):
                    self.assert_error(InvalidWish(0), Wishes, self.world, [wish], Beginnings())

    def test_beginnings_are_checked_behind_wishes(self):
        wrong = Beginnings(new=["old", "gone"], documents=[{"gone": 1}])
        self.assert_error(InvalidWish(0), Wishes, self.world, [7], wrong)
        self.assert_error(UnknownProgram("gone"), Wishes, self.world, [], wrong)
        self.assert_error(InvalidDocument(None), Wishes, self.world, [], Beginnings(documents=[{"gone": 1}]))

    def test_errors_of_faults(self):
        made = Wishes(self.world, self.wishes, Beginnings())
        for wrong in odd_values() + [-1, 12, "0"]:
            self.assert_error(InvalidChoice(wrong), made.fault, wrong, 7)
            if wrong is not None:
                self.assert_error(Unlike(), made.fault, 0, wrong)
                self.assert_error(Unlike(), made.first_fault, wrong)
        for fields in [{"len": "number", "size": "number"}, {"len": "number", "size": "number", "word": "number"}]:
            self.assert_error(Unlike(), made.fault, 0, World(fields))
            self.assert_error(Unlike(), made.first_fault, world=World(fields))
        self.assert_error(Unlike(), made.fault, position=0, world=EqualToAll())


class FaultsTest(KeptCase):
    def setUp(self):
        self.world = example(settable=Numbers.full(), removable=True)

    def fault(self, wish, beginnings=None, world=None):
        """Return the fault of a single wish."""
        made = Wishes(self.world, [wish], Beginnings(new=["old"]) if beginnings is None else beginnings)
        found = made.fault(0, world)
        self.assertEqual(made.first_fault(world), None if found is None else (0, found))
        return found

    def test_safe(self):
        self.assertEqual(self.fault(("safe", "new", "size")), (["old"], {}))
        self.assertEqual(self.fault(("safe", "old", "size")), (["new"], {"len": 0}))
        self.assertEqual(self.fault(("safe", "old", "name")), (["old"], {"word": "a"}))
        alone = World(self.world.fields(), [self.world.program("new")])
        self.assertIs(Wishes(alone, [("safe", "new", "size")], Beginnings()).fault(0), None)
        self.assertEqual(self.fault(("safe here", "new", "size")), (["old"], ()))
        plain = Wishes(example(), [("safe here", "new", "size")], Beginnings(new=["old"]))
        self.assertEqual(plain.fault(0), (["old"], ("size",)))
        self.assertIs(self.fault(("safe here", "old", "name")), None)
        self.assertIs(self.fault(("safe here", "new", "size"), Beginnings()), None)
        some = Beginnings(documents=[{"len": 120, "size": 120}, {"size": 3, "len": 3}])
        self.assertEqual(self.fault(("safe here", "old", "size"), some), (["new"], ("len",)))

    def test_seen_and_kept(self):
        self.assertEqual(self.fault(("seen", "old", "size", "new", "size")), (["new", "old"], {}))
        self.assertEqual(self.fault(("seen", "new", "size", "old", "size")), ([], {}))
        self.assertEqual(self.fault(("seen here", "old", "size", "new", "size")), (["new", "old"], ()))
        self.assertIs(self.fault(("seen here", "old", "size", "new", "size"), Beginnings()), None)
        self.assertIs(self.fault(("kept", "new", "size", "new", "size")), None)
        self.assertEqual(self.fault(("kept", "old", "name", "old", "name")), None)
        other = Program("other", {"name": Own("text", [("word", TextMap.same())], removable=True)})
        wider = World(self.world.fields(), self.world.programs() + [other])
        made = Wishes(wider, [("kept", "other", "name", "old", "name"), ("kept here", "other", "name", "old", "name")],
                      Beginnings(documents=[{"len": 1, "word": "k"}]))
        self.assertEqual(made.fault(0), ([], {"word": "a"}))
        self.assertEqual(made.fault(position=1), ([], ("word",)))
        self.assertEqual(made.first_fault(), (0, ([], {"word": "a"})))

    def test_what_comes_about(self):
        self.assertIs(self.fault(("sure", "old", "size")), None)
        reached = Reached(self.world, Beginnings(new=["old"]))
        way = self.fault(("sure", "new", "low"))
        self.assertNotIn("low", read(self.world, "new", reached.document_of(way)))
        way = self.fault(("within", "old", "size", Numbers([(0, 98)])))
        self.assertEqual(read(self.world, "old", reached.document_of(way))["size"], 99)
        self.assertIs(self.fault(("within", "new", "low", Numbers([(0, 9)]))), None)
        way = self.fault(("alike", "new", "size", "new", "low"))
        told = read(self.world, "new", reached.document_of(way))
        self.assertNotEqual(told["size"], told["low"])
        self.assertIs(self.fault(("alike", "old", "name", "old", "name")), None)
        for wish in [("sure", "new", "low"), ("within", "old", "size", Numbers()), ("alike", "new", "size", "new", "low")]:
            self.assertIs(self.fault(wish, Beginnings()), None)

    def test_as(self):
        self.assertIs(self.fault(("as", "new", "size")), None)
        for own, told in [(Own("number", [("size", SAME), ("len", SAME)], default=7), None),
                          (Own("number", [("size", SAME)]), {"len": 0}), (Own("number"), {"len": 0}),
                          (Own("number", [("size", SAME), ("len", LOW)]), {"len": -1}),
                          (Own("number", [("len", SAME), ("size", SAME)]), {"len": 0, "size": 1}),
                          (Own("number", [("size", SAME)], default=0), {"len": 1}), (Own("text"), ())]:
            writes = {"len": None} if own.kind == "text" else {"size": Write("size", SAME), "len": None}
            other = self.world.with_program(Program("new", {"size": own}, writes))
            self.assertEqual(self.fault(("as", "new", "size"), None, other), told)
        elder = Own("number", [("len", SAME)], default=6, settable=Numbers([(0, 200)]))
        other = self.world.with_program(Program("old", {"size": elder}, {"len": Write("size", SAME)}))
        self.assertEqual(self.fault(("as", "old", "size"), None, other), {})

    def test_other_worlds(self):
        lacking = World(self.world.fields(), [self.world.program("new")])
        plain = example()
        for wish, world in [(("safe", "old", "size"), lacking), (("seen", "old", "size", "new", "size"), lacking),
                            (("seen", "new", "size", "old", "size"), plain), (("kept", "new", "size", "new", "low"), plain),
                            (("as", "old", "name"), lacking), (("sure", "old", "size"), lacking)]:
            self.assertEqual(self.fault(wish, None, world), ())
        # Beginnings new by programs that the other world lacks are left out: nothing comes about.
        self.assertIs(self.fault(("sure", "new", "low"), None, lacking), None)
        some = Beginnings(new=["old"], documents=[{"size": 30}])
        way = self.fault(("within", "new", "low", Numbers()), some, lacking)
        self.assertIn("low", read(lacking, "new", Reached(lacking, Beginnings(documents=[{"size": 30}])).document_of(way)))
        texts = self.world.with_program(Program("new", {"low": Own("text")}))
        self.assertEqual(self.fault(("within", "new", "low", Numbers()), None, texts), ())
        self.assertEqual(self.fault(("alike", "new", "low", "old", "size"), None, texts), ())
        self.assertIs(self.fault(("alike", "new", "low", "new", "low"), None, texts), None)

    def test_the_first_fault(self):
        made = Wishes(self.world, [("sure", "old", "size"), ("seen", "new", "size", "old", "size"), ("safe", "new", "size")],
                      Beginnings(new=["old"]))
        self.assertEqual(made.first_fault(), (1, ([], {})))
        self.assertEqual(made.fault(2), (["old"], {}))
        self.assertIs(Wishes(self.world, [], Beginnings()).first_fault(), None)
        made.first_fault()[1][0].append("x")
        made.fault(2)[1]["len"] = 3
        self.assertEqual([made.first_fault(), made.fault(2)], [(1, ([], {})), (["old"], {})])

    def test_too_many_lists(self):
        world = turning(13, 16, 17)
        made = Wishes(world, [("sure", "turn", "x"), ("safe", "turn", "x"), ("safe here", "turn", "x")], Beginnings())
        self.assertIs(made.fault(0), None)
        for position in (1, 2):
            self.assert_error(TooMany("lists", 3000), made.fault, position)
        self.assert_error(TooMany("lists", 3000), made.first_fault)


class DrawnTest(KeptCase):
    def test_faults_are_those_of_the_other_stages(self):
        draw = random.Random(80)
        for _ in range(200):
            world = drawn_world(draw)
            beginnings = drawn_beginnings(draw, world)
            reached = Reached(world, beginnings)
            for name, own in all_own(world):
                own_field = world.program(name).own_field(own)
                for reader in all_own(world):
                    for kind, call, first in [("seen", problem, world), ("seen here", problem_here, reached)]:
                        if not own_field.settable.is_empty:
                            told = call(first, name, own, *reader)
                            wanted = None if told is None else told[1:3]
                            self.assertEqual(self.fault(world, (kind, name, own) + reader, beginnings), wanted)
                    for kind, call, first in [("kept", echo, world), ("kept here", echo_here, reached)]:
                        if own_field.removable:
                            told = call(first, name, own, *reader)
                            self.assertEqual(self.fault(world, (kind, name, own) + reader, beginnings), told)
                graph = ListGraph(world, own_list(world, name, own))
                wanted = None if len(graph) == 1 else (graph.rows()[1], parting(graph.first, graph.lists()[1]))
                self.assertEqual(self.fault(world, ("safe", name, own), beginnings), wanted)

    def fault(self, world, wish, beginnings):
        return Wishes(world, [wish], beginnings).fault(0)

    def test_what_comes_about_against_documents(self):
        draw = random.Random(81)
        for _ in range(150):
            world, beginnings, found = drawn_reached(draw)
            reached = Reached(world, beginnings)
            for name, own in all_own(world):
                kind = world.program(name).own_field(own).kind
                way = self.fault(world, ("sure", name, own), beginnings)
                self.assertIs(way is None, is_sure(reached, name, own))
                values = drawn_numbers(draw) if kind == "number" else drawn_texts(draw)
                way = self.fault(world, ("within", name, own, values), beginnings)
                self.assertIs(way is None, shown(reached, name, own).without(values).is_empty)
                if way is not None:
                    self.assertNotIn(read(world, name, reached.document_of(way))[own], values)
                for other in all_own(world):
                    if world.program(other[0]).own_field(other[1]).kind == kind:
                        way = self.fault(world, ("alike", name, own) + other, beginnings)
                        self.assertIs(way is None, always_alike(reached, name, own, *other))
                self.check_safe_here(world, beginnings, reached, found, name, own)

    def check_safe_here(self, world, beginnings, reached, found, name, own):
        direct = own_list(world, name, own)
        wanted = None
        for row, behind in ListGraph(world, direct).walk():
            shows = {tuple(sorted(dict(one))) for one in found if harm_kind(direct, behind, dict(one)) is not None}
            if shows:
                wanted = (row, next(presence for presence in reached.presences() if presence in shows))
                break
        self.assertEqual(self.fault(world, ("safe here", name, own), beginnings), wanted)

    def test_as_against_small_documents(self):
        draw = random.Random(82)
        told = []
        for _ in range(60):
            world, other = drawn_world(draw), None
            while other is None or other.fields() != world.fields():
                other = drawn_world(draw)
            for name, own in all_own(world):
                found = Wishes(world, [("as", name, own)], Beginnings()).fault(0, other)
                told.append(found if found is None or found == () else len(found))
                if (name, own) not in all_own(other):
                    self.assertEqual(found, ())
                elif world.program(name).own_field(own).kind != other.program(name).own_field(own).kind:
                    self.assertEqual(found, ())
                else:
                    elder, later = [own_list(one, name, own) for one in (world, other)]
                    wanted = next((document for document in small_documents(world, 2) if elder.at(document) is not None
                                   and elder.at(document) != later.at(document)), None)
                    self.assertEqual(found, wanted)
        self.assertLessEqual({None, (), 0, 1}, set(told))


if __name__ == "__main__":
    unittest.main()

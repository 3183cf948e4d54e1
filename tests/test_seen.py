"""Tests of keptedits.seen: edits that are seen and removals that are kept, at all documents and here (28 to 30)."""

import random
import unittest
from itertools import combinations

from keptedits.errors import NotRemovable, NotSettable, TooMany, UnknownOwn, UnknownProgram
from keptedits.graphs import ListGraph
from keptedits.maps import NumberMap, TextMap
from keptedits.marks import edited_list, removed_list
from keptedits.passes import edited, read
from keptedits.programs import Own, Program, Write
from keptedits.putting import over_row, own_list
from keptedits.reached import Beginnings, Reached
from keptedits.seen import echo, echo_here, problem, problem_here
from keptedits.sets import Numbers, Texts, full_set
from keptedits.worlds import World
from tests.brute import all_own, drawn_beginnings, read_behind, rows_up_to
from tests.helpers import KeptCase, drawn_document, drawn_world, odd_values, some_values
from tests.test_graphs import turning

SAME = NumberMap.same()
LOW = NumberMap.cut(0, 9)


def number(*fields, **more):
    """Return an own field of numbers with these sources."""
    return Own("number", [(field, SAME) for field in fields], **more)


def world_of(*programs):
    """Return a world of numbers with fields a, b and c."""
    return World({"a": "number", "b": "number", "c": "number"}, programs)


class ProblemTest(KeptCase):
    def setUp(self):
        self.settable = Numbers([(3, 20)])

    def writer(self, **writes):
        """Return a program p with an own field x that writes it into fields by maps."""
        return Program("p", {"x": number("a", settable=self.settable)},
                       {field: Write("x", mapping) for field, mapping in writes.items()})

    def test_an_edit_that_is_seen(self):
        world = world_of(self.writer(a=LOW), Program("r", {"g": number("a")}))
        self.assertIs(problem(world, "p", "x", "r", "g"), None)
        self.assertIs(problem(world=world, writer="p", edited="x", name="p", own="x"), None)
        reached = Reached(world, Beginnings(anything=True))
        self.assertIs(problem_here(reached=reached, writer="p", edited="x", name="r", own="g"), None)

    def test_kinds_of_the_empty_row(self):
        world = world_of(self.writer(), Program("r", {"g": number("a")}))
        self.assertEqual(problem(world, "p", "x", "r", "g"), ("unwritten", [], {}, 3))
        world = world_of(self.writer(a=SAME), Program("r", {"g": number("b", "c")}))
        self.assertEqual(problem(world, "p", "x", "r", "g"), ("unread", [], {}, 3))
        # A mark that takes all settable values to one is an end, which is no mark.
        world = world_of(self.writer(a=NumberMap.constant_map(4)), Program("r", {"g": number("a")}))
        self.assertEqual(problem(world, "p", "x", "r", "g"), ("unread", [], {}, 3))
        world = world_of(self.writer(a=SAME), Program("r", {"g": Own("number", [("c", LOW), ("b", SAME), ("a", SAME)])}))
        # The first field in sorted order is b; at its least value 0 the least settable value is missed already.
        self.assertEqual(problem(world, "p", "x", "r", "g"), ("masked", [], {"b": 0}, 3))

    def test_kinds_of_rows(self):
        reader = Program("r", {"g": number("a")})
        drop = Program("drop", {}, {"a": None})
        self.assertEqual(problem(world_of(self.writer(a=SAME), reader, drop), "p", "x", "r", "g"), ("lost", ["drop"], {}, 3))
        fix = Program("fix", {"f": number(default=3)}, {"a": Write("f", SAME)})
        self.assertEqual(problem(world_of(self.writer(a=SAME), reader, fix), "p", "x", "r", "g"), ("lost", ["fix"], {}, 4))
        cut = Program("cut", {"f": number("a")}, {"a": Write("f", LOW)})
        self.assertEqual(problem(world_of(self.writer(a=SAME), reader, cut), "p", "x", "r", "g"),
                         ("changed", ["cut"], {}, 10))
        turn = Program("turn", {"f": number("b", "a")}, {"a": Write("f", SAME)})
        self.assertEqual(problem(world_of(self.writer(a=SAME), reader, turn), "p", "x", "r", "g"),
                         ("masked", ["turn"], {"b": 0}, 3))
        # The first row of several, by its length, then in sorted order; each with the first kind that applies.
        every = world_of(self.writer(a=SAME), turn, cut, fix, drop, reader)
        self.assertEqual(problem(every, "p", "x", "r", "g"), ("changed", ["cut"], {}, 10))
        every = world_of(self.writer(a=SAME), turn, drop, reader)
        self.assertEqual(problem(every, "p", "x", "r", "g"), ("lost", ["drop"], {}, 3))

    def test_the_least_value_that_is_missed(self):
        self.settable = Numbers([(-3, 4)])
        reader = Program("r", {"g": Own("number", [("b", LOW), ("a", NumberMap.cut(0, 2))])})
        self.assertEqual(problem(world_of(self.writer(a=SAME), reader), "p", "x", "r", "g"), ("masked", [], {"b": 0}, 1))
        self.settable = Numbers.of(0, -2)
        self.assertEqual(problem(world_of(self.writer(a=SAME), reader), "p", "x", "r", "g"), ("unread", [], {}, 0))

    def test_texts(self):
        same = TextMap.same()
        p = Program("p", {"x": Own("text", [("w", same)], settable=Texts(["a"], others=True))}, {"w": Write("x", same)})
        r = Program("r", {"g": Own("text", [("w", same)])}, {"w": Write("g", TextMap({"b": "c"}))})
        world = World({"w": "text"}, [p, r])
        self.assertEqual(problem(world, "p", "x", "r", "g"), ("changed", ["r"], {}, "b"))

    def test_here(self):
        turn = Program("turn", {"f": number("b", "a")}, {"a": Write("f", SAME)})
        world = world_of(self.writer(a=SAME), turn, Program("r", {"g": number("a")}))
        self.assertEqual(problem(world, "p", "x", "r", "g")[0], "masked")
        for beginnings, told in [(Beginnings(), None), (Beginnings(new=["p"]), None), (Beginnings(documents=[{"c": 1}]), None),
                                 (Beginnings(documents=[{"c": 1}, {"b": 1, "c": 2}]), ("masked", ["turn"], ("b", "c"))),
                                 (Beginnings(anything=True), ("masked", ["turn"], ("b",)))]:
            self.assertEqual(problem_here(Reached(world, beginnings), "p", "x", "r", "g"), told)

    def test_kinds_here(self):
        reader, cut = Program("r", {"g": number("a")}), Program("cut", {"f": number("a")}, {"a": Write("f", LOW)})
        drop = Program("drop", {}, {"a": None})
        some = Beginnings(documents=[{"c": 1}, {"b": 2}, {"b": 1, "c": 1}])
        for programs, told in [((self.writer(),), ("unwritten", [])), ((self.writer(b=SAME),), ("unread", [])),
                               ((self.writer(a=SAME), cut), ("changed", ["cut"])),
                               ((self.writer(a=SAME), drop), ("lost", ["drop"]))]:
            reached = Reached(world_of(*programs, reader), some)
            self.assertEqual(problem_here(reached, "p", "x", "r", "g"), told + (reached.presences()[0],))
        # A list with an entry and another mark: the first presence decides which of the kinds is told.
        both = Program("both", {"f": Own("number", [("b", SAME), ("a", LOW)])}, {"a": Write("f", SAME)})
        world = world_of(self.writer(a=SAME), both, reader)
        for documents, told in [([{"b": 1}], ("masked", ["both"], ("b",))), ([{"c": 1}], ("changed", ["both"], ("c",))),
                                ([{"b": 1}, {"a": 1}], ("changed", ["both"], ("a",)))]:
            self.assertEqual(problem_here(Reached(world, Beginnings(documents=documents)), "p", "x", "r", "g"), told)


class EchoTest(KeptCase):
    def setUp(self):
        self.own = number("a", removable=True)
        self.reader = Program("r", {"g": number("a", "b", "c")})

    def writer(self, own, *fields):
        """Return a program p that writes an own field x into fields."""
        return Program("p", {"x": own}, {field: Write("x", SAME) for field in fields})

    def test_removals(self):
        for own, fields, told in [
            (self.own, ("a", "b", "c"), None), (self.own, ("a", "b"), ([], {"a": 0, "c": 0})),
            (self.own, ("a",), ([], {"a": 0, "b": 0})), (self.own, ("b", "c"), ([], {"a": 0})),
            (number(default=3, removable=True), ("a",), ([], {"b": 0})), (number(removable=True), ("a",), None),
            (number("c", "b", removable=True), ("a",), ([], {"b": 0})), (number("b", removable=True), ("a", "b"), ([], {"b": 0, "c": 0}))]:
            self.assertEqual(echo(world_of(self.writer(own, *fields), self.reader), "p", "x", "r", "g"), told)

    def test_rows(self):
        world = world_of(self.writer(self.own, "a"), Program("r", {"g": number("a")}),
                         Program("z", {"f": number("a", "b")}, {"a": Write("f", SAME)}))
        self.assertEqual(echo(world=world, writer="p", edited="x", name="r", own="g"), (["z"], {"a": 0, "b": 0}))
        self.assertIs(echo_here(Reached(world, Beginnings(new=["p", "z"])), "p", "x", "r", "g"), None)
        for documents, told in [([{"a": 1}, {"b": 1}], (["z"], ("a", "b"))), ([{"b": 1, "a": 3, "c": 0}], (["z"], ("a", "b", "c")))]:
            reached = Reached(world, Beginnings(documents=documents))
            self.assertEqual(echo_here(reached=reached, writer="p", edited="x", name="r", own="g"), told)

    def test_here(self):
        world = world_of(self.writer(self.own, "a"), self.reader)
        for beginnings, told in [(Beginnings(), None), (Beginnings(documents=[{"b": 1}, {"a": 1}]), None),
                                 (Beginnings(anything=True), ([], ("a", "b")))]:
            self.assertEqual(echo_here(Reached(world, beginnings), "p", "x", "r", "g"), told)
        world = world_of(self.writer(number(default=3, removable=True), "a"), self.reader)
        self.assertEqual(echo_here(Reached(world, Beginnings(documents=[{"c": 1}])), "p", "x", "r", "g"), ([], ("c",)))
        world = world_of(self.writer(number(removable=True), "a"), self.reader)
        self.assertIs(echo_here(Reached(world, Beginnings(anything=True)), "p", "x", "r", "g"), None)

    def test_the_least_document_has_values_of_its_kinds(self):
        p = Program("p", {"x": Own("text", [("w", TextMap.same())], removable=True)})
        world = World({"w": "text", "a": "number"}, [p, Program("r", {"g": number("a")})])
        self.assertEqual(echo(world, "p", "x", "r", "g"), ([], {"a": 0, "w": "a"}))


class ErrorsTest(KeptCase):
    def setUp(self):
        plain = Program("p", {"x": number("a"), "y": number("a", settable=Numbers.full(), removable=True)})
        self.world = world_of(plain, Program("r", {"g": number("a")}))
        reached = Reached(self.world, Beginnings())
        self.calls = [(problem, self.world, NotSettable("x")), (problem_here, reached, NotSettable("x")),
                      (echo, self.world, NotRemovable("x")), (echo_here, reached, NotRemovable("x"))]

    def test_the_sequence_of_errors(self):
        for call, first, last in self.calls:
            for wrong in odd_values() + [1, "gone", "a"]:
                self.assert_error(UnknownProgram(wrong), call, first, wrong, 7, 7, 7)
                self.assert_error(UnknownOwn(wrong), call, first, "p", wrong, 7, 7)
                self.assert_error(UnknownProgram(wrong), call, first, "p", "x", wrong, 7)
                self.assert_error(UnknownOwn(wrong), call, first, "p", "x", "r", wrong)
            self.assert_error(last, call, first, "p", "x", "r", "g")

    def test_too_many_lists(self):
        same = TextMap.same()
        own = {"x": Own("text", settable=Texts.of("a", "b"), removable=True), "y": Own("text")}
        world = turning(13, 16, 17).with_program(Program("p", own, {"b": None}))
        for beginnings in (Beginnings(), Beginnings(new=["p"])):
            reached = Reached(world, beginnings)
            # No list would be needed: nothing is written, and the removed own field never has a value.
            for call, first in [(problem, world), (problem_here, reached), (echo, world), (echo_here, reached)]:
                self.assert_error(TooMany("lists", 3000), call, first, "p", "x", "turn", "x")
            self.assert_error(NotSettable("y"), problem_here, reached, "p", "y", "turn", "x")
            self.assert_error(NotRemovable("y"), echo, world, "p", "y", "turn", "x")
        self.assertEqual(own_list(world, "turn", "x").entries, (("a", same),))


class DrawnTest(KeptCase):
    def test_problems_against_rows(self):
        draw = random.Random(70)
        kinds, kinds_here = [], []
        for world, name, own, reader in self.drawn(draw, 900):
            own_field = world.program(name).own_field(own)
            if own_field.settable.is_empty:
                continue
            reached = Reached(world, drawn_beginnings(draw, world))
            rows = rows_up_to(world.names(), 3)[:40]
            lists = [edited_list(world, name, own, over_row(world, row, own_list(world, *reader))) for row in rows]
            told = problem(world, name, own, *reader)
            wanted = next((found for found in map(self.kind_of, [(world, name, own, row, lists[0], one)
                                                                 for row, one in zip(rows, lists)]) if found), None)
            self.assertTrue(told is None or told[:2] == wanted or (wanted is None and len(told[1]) >= len(rows[-1])))
            self.assertFalse(told is None and wanted is not None)
            kinds.append(told and told[0])
            if told is not None:
                self.check_problem(world, name, own, reader, lists[0], told)
            here = problem_here(reached, name, own, *reader)
            kinds_here.append(here and here[0])
            wanted = self.first_here(reached, world, name, own, rows, lists)
            self.assertTrue(here == wanted or (wanted is None and len(here[1]) >= len(rows[-1])))
        self.assertEqual(set(kinds), {None, "unwritten", "unread", "lost", "masked", "changed"})
        self.assertEqual(set(kinds_here), {None, "unwritten", "unread", "lost", "masked", "changed"})

    def drawn(self, draw, many):
        """Yield drawn worlds with an own field and a reader, which often is of the same kind."""
        for _ in range(many):
            world = drawn_world(draw)
            if all_own(world):
                name, own = draw.choice(all_own(world))
                kind = world.program(name).own_field(own).kind
                readers = [one for one in all_own(world) if world.program(one[0]).own_field(one[1]).kind == kind]
                yield world, name, own, draw.choice(readers)

    @staticmethod
    def kind_of(asked):
        """Return the kind of problem of a row with the row, told by the words of point 28, None without one."""
        world, name, own, row, first, found = asked
        writes = [write for write in world.program(name).writes().values() if write is not None and write.own == own]
        if row == [] and (not writes or first.mark is None):
            return ("unread" if writes else "unwritten", row)
        if found.mark is None:
            return ("lost", row)
        if found.entries:
            return ("masked", row)
        return None if found.alike(first) else ("changed", row)

    def check_problem(self, world, name, own, reader, first, told):
        kind, row, document, value = told
        settable = world.program(name).own_field(own).settable
        self.assertIn(value, settable)
        if kind in ("unwritten", "unread"):
            self.assertEqual((row, document, value), ([], {}, settable.least()))
            return
        found = edited_list(world, name, own, over_row(world, row, own_list(world, *reader)))
        least = {}
        if kind == "masked":
            field = min(field for field, _ in found.entries)
            least = {field: full_set(world.kind_of_field(field)).least()}
        self.assertEqual(document, least)
        for one in some_values(settable.kind):
            if one in settable:
                behind = read_behind(world, row, edited(world, name, document, {own: one}), *reader)
                if one == value:
                    self.assertNotEqual(behind, first.mark.at(one))
                    break
                self.assertEqual(behind, first.mark.at(one))

    def first_here(self, reached, world, name, own, rows, lists):
        settable = world.program(name).own_field(own).settable
        writes = [write for write in world.program(name).writes().values() if write is not None and write.own == own]
        for row, found in zip(rows, lists):
            for presence in reached.presences():
                if row == [] and (not writes or lists[0].mark is None):
                    return ("unread" if writes else "unwritten", row, presence)
                if found.mark is None:
                    return ("lost", row, presence)
                if any(field in presence for field, _ in found.entries):
                    return ("masked", row, presence)
                if found.mark.apart(lists[0].mark, settable) is not None:
                    return ("changed", row, presence)
        return None

    def test_edits_that_are_seen_are_read_behind_rows(self):
        draw = random.Random(71)
        many = 0
        for world, name, own, reader in self.drawn(draw, 1500):
            own_field = world.program(name).own_field(own)
            if own_field.settable.is_empty or problem(world, name, own, *reader) is not None:
                continue
            many += 1
            first = edited_list(world, name, own, own_list(world, *reader))
            for row in rows_up_to(world.names(), 2):
                for _ in range(3):
                    document = drawn_document(draw, world)
                    for value in [value for value in some_values(own_field.kind) if value in own_field.settable][:4]:
                        behind = read_behind(world, row, edited(world, name, document, {own: value}), *reader)
                        self.assertEqual(behind, first.mark.at(value))
        self.assertGreater(many, 10)

    def test_echoes_against_rows(self):
        draw = random.Random(72)
        told, told_here = [], []
        for world, name, own, reader in self.drawn(draw, 900):
            own_field = world.program(name).own_field(own)
            if not own_field.removable:
                continue
            rows = rows_up_to(world.names(), 3)[:40]
            lists = [removed_list(world, name, own, over_row(world, row, own_list(world, *reader))) for row in rows]
            found = echo(world, name, own, *reader)
            told.append(found is None)
            sources = [field for field, _ in own_field.sources]
            has_value = [some for size in range(5) for some in combinations(sorted(world.fields()), size)
                         if own_field.default is not None or set(some) & set(sources)]
            wanted = next(((row, some) for row, one in zip(rows, lists) for some in has_value if set(some) & set(one.fields())), None)
            if wanted is None:
                self.assertTrue(found is None or len(found[0]) >= len(rows[-1]))
            else:
                self.assertEqual((found[0], tuple(sorted(found[1]))), wanted)
                self.assertEqual(found[1], {field: full_set(world.kind_of_field(field)).least() for field in wanted[1]})
            reached = Reached(world, drawn_beginnings(draw, world))
            here = echo_here(reached, name, own, *reader)
            told_here.append(here is None)
            wanted = next(((row, some) for row, one in zip(rows, lists) for some in reached.presences()
                           if some in has_value and set(some) & set(one.fields())), None)
            self.assertTrue(here == wanted or (wanted is None and len(here[0]) >= len(rows[-1])))
        self.assertEqual((set(told), set(told_here)), ({True, False}, {True, False}))

    def test_kept_removals_leave_no_trace(self):
        draw = random.Random(73)
        for world, name, own, reader in self.drawn(draw, 500):
            if world.program(name).own_field(own).removable and echo(world, name, own, *reader) is None:
                for row in rows_up_to(world.names(), 2):
                    documents = [drawn_document(draw, world) for _ in range(5)]
                    had = [document for document in documents if own in read(world, name, document)]
                    behind = [read_behind(world, row, edited(world, name, one, {own: None}), *reader) for one in had]
                    self.assertTrue(all(value == behind[0] for value in behind))

    def test_safe_graphs_have_one_list(self):
        draw = random.Random(74)
        for world, name, own, reader in self.drawn(draw, 200):
            if world.program(name).own_field(own).settable.is_empty or len(ListGraph(world, own_list(world, *reader))) > 1:
                continue
            found = problem(world, name, own, *reader)
            self.assertTrue(found is None or found[1] == [])


if __name__ == "__main__":
    unittest.main()

"""Tests of keptedits.passes: reading, passes, edits, new documents, steps (points 10, 12, 13 and 14)."""

import random
import unittest

from keptedits.errors import InvalidDocument, InvalidEdit, InvalidStep, UnknownProgram
from keptedits.maps import NumberMap, TextMap
from keptedits.passes import edited, effect, is_document, is_edit, made_new, passed, read, run, run_all
from keptedits.programs import Own, Program, Write
from keptedits.sets import Numbers, Texts
from keptedits.worlds import World
from tests.helpers import KeptCase, LikeName, drawn_document, drawn_edit, drawn_world, odd_values

SAME = NumberMap.same()
PLUS = NumberMap([(None, 0, 1), (1, None, None)])


def example():
    """Return the world of DOC.md."""
    old = Program("old", {"size": Own("number", [("len", SAME)], default=5, settable=Numbers.full())},
                  {"len": Write("size", NumberMap.cut(0, 99))}, keeps=False)
    new = Program("new", {"size": Own("number", [("size", SAME), ("len", SAME)])},
                  {"size": Write("size", SAME), "len": None})
    return World({"len": "number", "size": "number"}, [old, new])


def plain_edited(world, name, document, edit):
    """Return the document behind an edited pass, told by the words of points 10, 12 and 13."""
    program = world.program(name)
    worth, gone = {}, []
    for own, told in program.own_fields().items():
        present = [(field, mapping) for field, mapping in told.sources if field in document]
        worth[own] = present[0][1].at(document[present[0][0]]) if present else told.default
        if own in edit and edit[own] != worth[own]:
            worth[own] = edit[own]
            if edit[own] is None:
                gone.append(own)
    found = {} if not program.keeps else dict(document)
    for field, write in program.writes().items():
        found.pop(field, None)
        if write is None or write.own in gone:
            continue
        if worth[write.own] is not None:
            found[field] = write.mapping.at(worth[write.own])
        elif write.leaves and field in document:
            found[field] = document[field]
    return found


class DocumentTest(unittest.TestCase):
    def test_the_example(self):
        world = example()
        found = [passed(world, "old", {"size": 7}), edited(world, "old", {}, {"size": 120}),
                 passed(world, "new", {"len": 3}), read(world, "new", {})]
        self.assertEqual(repr(found), "[{'len': 5}, {'len': 99}, {'size': 3}, {}]")


class PassesTest(KeptCase):
    def setUp(self):
        own = {
            "f": Own("number", [("a", PLUS), ("b", SAME)], settable=Numbers([(0, 9)]), removable=True),
            "g": Own("number", [("c", SAME)], default=7, settable=Numbers.of(1, 2), removable=True),
            "t": Own("text", [("t", TextMap({"x": "y"}))], settable=Texts(["x", "y"])),
        }
        writes = {"a": Write("f", SAME), "b": Write("f", SAME, leaves=True), "c": Write("g", NumberMap.cut(0, 5)),
                  "d": None, "t": Write("t", TextMap.same(), leaves=True)}
        fields = {"a": "number", "b": "number", "c": "number", "d": "number", "e": "number", "t": "text"}
        self.keeping = Program("keeping", own, writes)
        self.dropping = Program("dropping", own, writes, keeps=False)
        self.leaving = Program("leaving", {"f": Own("number", removable=True, settable=Numbers.of(1, 2))},
                               {"a": Write("f", SAME, leaves=True), "b": Write("f", SAME)})
        self.world = World(fields, [self.keeping, self.dropping, self.leaving])

    def test_reading(self):
        self.assertEqual(read(self.world, "keeping", {"a": -4, "b": 3, "t": "x"}), {"f": 1, "g": 7, "t": "y"})
        self.assertEqual(list(read(self.world, "keeping", {"t": "z", "b": 3})), ["f", "g", "t"])
        self.assertEqual(read(self.world, "keeping", {"b": -3}), {"f": -3, "g": 7})
        self.assertEqual(read(world=self.world, name="keeping", document={"c": 0}), {"g": 0})
        self.assertEqual(read(self.world, "leaving", {"a": 1, "e": 2}), {})

    def test_passes(self):
        full = {"a": -4, "b": 3, "c": 9, "d": 4, "e": 5, "t": "x"}
        self.assertEqual(passed(self.world, "keeping", full), {"a": 1, "b": 1, "c": 5, "e": 5, "t": "y"})
        self.assertEqual(passed(self.world, "dropping", full), {"a": 1, "b": 1, "c": 5, "t": "y"})
        self.assertEqual(passed(self.world, "keeping", {}), {"c": 5})
        self.assertEqual(passed(self.world, "keeping", {"d": 1, "e": 1}), {"c": 5, "e": 1})
        # A write that leaves: the field stays as it was, with its value or absent.
        self.assertEqual(passed(self.world, "leaving", {"a": 3, "b": 4, "e": 5}), {"a": 3, "e": 5})
        self.assertEqual(passed(self.world, "leaving", {"b": 4}), {})

    def test_edits(self):
        document = {"a": 4, "b": 3, "e": 1}
        self.assertEqual(edited(self.world, "keeping", document, {"f": 9}), {"a": 9, "b": 9, "c": 5, "e": 1})
        self.assertEqual(edited(self.world, "keeping", document, {"f": None, "g": None}), {"e": 1})
        self.assertEqual(edited(self.world, "dropping", document, {"f": None, "g": 2}), {"c": 2})
        self.assertEqual(edited(self.world, "dropping", document, {}), {"a": 4, "b": 4, "c": 5})
        # None for what has nothing is no edit, so the write still leaves.
        self.assertEqual(edited(self.world, "leaving", {"a": 3, "b": 4}, {"f": None}), {"a": 3})
        self.assertEqual(effect(self.world, "leaving", {"a": 3}, {"f": None}), {})
        self.assertEqual(edited(self.world, "leaving", {"a": 3}, {"f": 1}), {"a": 1, "b": 1})
        # Removed where it has a value: fields are absent, also where the write leaves.
        self.assertEqual(edited(self.world, "keeping", {"b": 3, "c": 1}, {"f": None}), {"c": 1})

    def test_effect(self):
        document = {"a": 4, "c": 1}
        edit = {"t": "x", "g": 1, "f": 4}
        self.assertEqual(list(effect(self.world, "keeping", document, edit).items()), [("t", "x")])
        self.assertEqual(list(effect(self.world, "keeping", {}, edit).items()), [("f", 4), ("g", 1), ("t", "x")])
        self.assertEqual(effect(self.world, "keeping", {}, {"f": None, "g": None}), {"g": None})
        self.assertEqual(effect(self.world, "keeping", document, {"f": None}), {"f": None})
        # The map of the source counts: what is read is 1, not -4.
        self.assertEqual(effect(self.world, "keeping", {"a": -4}, {"f": 1}), {})

    def test_made_new(self):
        self.assertEqual(made_new(self.world, "keeping"), {"c": 5})
        self.assertEqual(made_new(self.world, "keeping", None), {"c": 5})
        self.assertEqual(made_new(self.world, name="keeping", edit={"f": 3, "g": None}), {"a": 3, "b": 3})
        self.assertEqual(made_new(self.world, "leaving", {"f": None}), {})

    def test_drawn_passes(self):
        draw = random.Random(6)
        for _ in range(600):
            world = drawn_world(draw)
            document, name = drawn_document(draw, world), draw.choice(world.names())
            edit = drawn_edit(draw, world, name)
            before = dict(document), dict(edit)
            self.assertEqual(edited(world, name, document, edit), plain_edited(world, name, document, edit))
            self.assertEqual(passed(world, name, document), plain_edited(world, name, document, {}))
            self.assertEqual(made_new(world, name, edit), plain_edited(world, name, {}, edit))
            kept = effect(world, name, document, edit)
            self.assertEqual(edited(world, name, document, kept), edited(world, name, document, edit))
            self.assertEqual((document, edit), before)

    def test_what_is_a_document(self):
        for right in [{}, {"a": 1}, {"t": "x", "e": -5}]:
            self.assertIs(is_document(self.world, right), True)
        for wrong in odd_values() + [1, "a", [], {"z": 1}, {1: 1}, {"a": True}, {"a": "x"}, {"t": 1}, {"a": None}]:
            self.assertIs(is_document(self.world, value=wrong), False)

    def test_what_is_an_edit(self):
        for right in [{}, {"f": 0}, {"f": None, "g": 2, "t": "y"}]:
            self.assertIs(is_edit(self.world, "keeping", right), True)
        for wrong in odd_values() + [1, [], {"a": 1}, {"f": 10}, {"f": True}, {"f": "x"}, {"t": None}, {"t": "z"},
                                     {"f": []}, {1: 1}]:
            self.assertIs(is_edit(self.world, name="keeping", value=wrong), False)
        for wrong in odd_values() + [1, "f"]:
            self.assert_error(UnknownProgram(wrong), is_edit, self.world, wrong, 7)


class ErrorsTest(KeptCase):
    def setUp(self):
        PassesTest.setUp(self)

    def test_names_come_first(self):
        for wrong in odd_values() + [1, "f", "a"]:
            self.assert_error(UnknownProgram(wrong), read, self.world, wrong, 7)
            self.assert_error(UnknownProgram(wrong), passed, self.world, wrong, 7)
            self.assert_error(UnknownProgram(wrong), effect, self.world, wrong, 7, 7)
            self.assert_error(UnknownProgram(wrong), edited, self.world, wrong, 7, 7)
            self.assert_error(UnknownProgram(wrong), made_new, self.world, wrong, 7)

    def test_documents_come_before_edits(self):
        for wrong in odd_values() + [1, "a", [], {"z": 1, "a": True}, {1: 1}, {(): 1}]:
            if isinstance(wrong, dict) and list(wrong) == ["a"]:
                continue
            self.assert_error(InvalidDocument(None), read, self.world, "keeping", wrong)
            self.assert_error(InvalidDocument(None), passed, self.world, "keeping", wrong)
            self.assert_error(InvalidDocument(None), effect, self.world, "keeping", wrong, 7)
            self.assert_error(InvalidDocument(None), edited, self.world, "keeping", wrong, 7)
            self.assert_error(InvalidDocument(None), run, self.world, [], wrong)
        self.assert_error(InvalidDocument(None), read, self.world, "keeping", {LikeName("a"): 1})
        self.assert_error(InvalidEdit(None), effect, self.world, "keeping", {}, {LikeName("f"): 1})
        for wrong in odd_values() + ["x"]:
            document = {"e": wrong, "c": wrong, "d": wrong, "a": 1, "t": "x"}
            self.assert_error(InvalidDocument("c"), read, self.world, "keeping", document)
            self.assert_error(InvalidDocument("c"), edited, self.world, "keeping", document, 7)
        self.assert_error(InvalidDocument("t"), passed, self.world, "keeping", {"t": "abcdefghijklm"})

    def test_edits(self):
        for wrong in odd_values() + [1, "f", [], {"a": 1, "f": 77}, {1: 1}, {(): 1}]:
            self.assert_error(InvalidEdit(None), effect, self.world, "keeping", {}, wrong)
            self.assert_error(InvalidEdit(None), edited, self.world, "keeping", {}, wrong)
            if wrong is not None:
                self.assert_error(InvalidEdit(None), made_new, self.world, "keeping", wrong)
        for wrong in odd_values() + ["x", 10, 0]:
            if wrong is not None:
                edit = {"t": 1, "g": wrong, "f": 3}
                self.assert_error(InvalidEdit("g"), effect, self.world, "keeping", {}, edit)
                self.assert_error(InvalidEdit("g"), made_new, self.world, "keeping", edit)
        self.assert_error(InvalidEdit("t"), edited, self.world, "keeping", {}, {"t": None, "f": None})

    def test_steps(self):
        good = ("keeping", {"f": 3})
        for wrong in odd_values() + [1, "a", {}, {"keeping": {}}]:
            if not isinstance(wrong, (list, tuple)):
                self.assert_error(InvalidStep(-1), run, self.world, wrong, 7)
                self.assert_error(InvalidStep(-1), list_of, self.world, wrong, 7)
        for wrong in odd_values() + [1, "keeping", ["keeping", {}], ("keeping",), ("keeping", {}, 1), ("f", {}),
                                     ([], {}), ("keeping", None), ("keeping", []), ("keeping", {"a": 1}),
                                     ("keeping", {"f": True}), (True, {})]:
            self.assert_error(InvalidStep(1), run, self.world, [good, wrong, 7], 7)
            self.assert_error(InvalidStep(1), list_of, self.world, (good, wrong, 7), 7)
        self.assert_error(InvalidDocument("a"), run, self.world, [good], {"a": "x"})
        self.assert_error(InvalidDocument(None), list_of, self.world, [good], None)


def list_of(world, steps, document):
    """Return what run_all yields."""
    return list(run_all(world, steps, document))


class StepsTest(KeptCase):
    def test_run_and_run_all(self):
        draw = random.Random(7)
        for _ in range(200):
            world = drawn_world(draw)
            steps = []
            for _ in range(draw.randint(0, 4)):
                name = draw.choice(world.names())
                steps.append((name, drawn_edit(draw, world, name)))
            document = drawn_document(draw, world)
            wanted = [document]
            for name, edit in steps:
                wanted.append(edited(world, name, wanted[-1], edit))
            self.assertEqual(list(run_all(world, tuple(steps), document)), wanted)
            self.assertEqual(run(world, steps, document), wanted[-1])
            self.assertIsNot(run(world, [], document), document)
        self.assertEqual(run(world=example(), steps=[("new", {})], document={"len": 1}), {"size": 1})

    def test_what_is_yielded_is_free(self):
        world, steps, document = example(), [("old", {"size": 4}), ("new", {})], {"len": 1}
        first, second = run_all(world, steps, document), run_all(world, steps, document)
        found = [next(first), next(second)]
        self.assertEqual(found, [{"len": 1}, {"len": 1}])
        steps[0][1]["size"] = 8
        steps.clear()
        found[0].clear()
        document["len"] = 9
        found += [next(first), next(second)]
        self.assertEqual(found, [{}, {"len": 1}, {"len": 4}, {"len": 4}])
        found[2]["len"] = 6
        self.assertEqual([list(first), list(second)], [[{"size": 4}], [{"size": 4}]])
        self.assertEqual(document, {"len": 9})

    def test_a_generator_looks_when_it_is_asked(self):
        world, steps, document = example(), [], {}
        waiting = run_all(world, steps, document)
        steps.append(("old", {}))
        document["len"] = 7
        self.assertEqual(list(waiting), [{"len": 7}, {"len": 7}])
        wrong = run_all(world, 7, 7)
        with self.assertRaises(InvalidStep):
            next(wrong)


if __name__ == "__main__":
    unittest.main()

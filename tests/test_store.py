"""Tests of keptedits.store: copies by names, numbers and undoing (point 46)."""

import random
import unittest

from keptedits.copies import Copy
from keptedits.errors import (InvalidChoice, InvalidCopies, InvalidDocument, InvalidEdit, InvalidName, NameTaken,
                              NothingToUndo, UnknownName, UnknownProgram)
from keptedits.joins import Join
from keptedits.store import Store
from tests.helpers import EqualToAll, KeptCase, drawn_document, drawn_edit, drawn_value, drawn_world, odd_values
from tests.test_toldback import example


class ExampleCase(KeptCase):
    def setUp(self):
        self.world = example()
        self.store = Store(world=self.world)
        self.store.put("a", {"size": 7})

    def state(self):
        """Return all that a store tells."""
        return self.store.names(), [self.store.copy_of(name) for name in self.store.names()], self.store.last


class CallsTest(ExampleCase):
    def test_a_new_store(self):
        store = Store(self.world)
        self.assertEqual((store.world, store.last, store.names(), len(store), list(store)), (self.world, 0, [], 0, []))
        self.assertIsNone(store.put(name="b", document={"len": 3}))
        self.assertIsNone(store.put("abcdefgh", {}))
        self.assertEqual(store.copy_of(name="b"), Copy(self.world, {"len": 3}))
        self.assertEqual((store.names(), len(store), list(store), store.last), (["abcdefgh", "b"], 2, ["abcdefgh", "b"], 0))
        self.assertTrue("b" in store and "c" not in store)
        for wrong in odd_values():
            self.assertIs(wrong in store, False)

    def test_steps(self):
        self.assertEqual(self.store.step(name="a", program="new", edit={"size": 9, "flag": "on"}), 1)
        self.assertEqual(self.store.copy_of("a"), Copy(self.world, {"size": 7}).stepped("new", {"size": 9, "flag": "on"}, number=1))
        # A pass uses no number.
        self.assertIsNone(self.store.step("a", "new"))
        self.assertIsNone(self.store.step("a", "new", {"size": 9}))
        self.assertEqual(self.store.last, 1)
        self.assertEqual(self.store.step("a", "old", {"size": None}), 2)
        self.assertEqual((self.store.copy_of("a").document(), self.store.last), ({}, 2))

    def test_fork_and_drop(self):
        self.store.step("a", "new", {"size": 9})
        self.assertIsNone(self.store.fork(name="a", new="b"))
        self.assertEqual(self.store.copy_of("b"), self.store.copy_of("a"))
        self.store.step("b", "new", {"size": 10})
        self.assertEqual([self.store.copy_of(name).document() for name in "ab"], [{"size": 9}, {"size": 10}])
        self.assertIsNone(self.store.drop(name="a"))
        self.assertEqual((self.store.names(), self.store.last), (["b"], 2))
        self.store.put("a", {})

    def test_merge(self):
        self.store.fork("a", "b")
        self.store.step("a", "new", {"size": 9})
        self.store.step("b", "new", {"flag": "on"})
        self.assertEqual(self.store.merge(new="c", program="new", names=("a", "b", "a")), [])
        self.assertEqual((self.store.copy_of("c").document(), self.store.copy_of("c").known, self.store.last), ({"size": 9, "flag": "on"}, (1, 2), 2))
        self.store.step("b", "new", {"size": 120})
        self.assertEqual(self.store.merge("d", "new", ["a", "b"], choices={("new", "size"): 130}), [])
        self.assertEqual((self.store.copy_of("d").origin("size"), self.store.last), (("hand", 4), 4))
        self.assertEqual(self.store.copy_of("d").known, (1, 2, 3, 4))

    def test_merge_tells_what_is_mixed(self):
        self.store.put("x", {"len": 3})
        self.store.step("x", "new", {"size": 120})
        # The old program does not know "size", and keeps nothing.
        self.assertEqual(self.store.merge("y", "old", ["x"]), [("new", "size")])

    def test_undo(self):
        states = [self.state()]
        calls = [lambda: self.store.put("b", {"size": 7}), lambda: self.store.step("a", "new", {"size": 9}), lambda: self.store.step("a", "new"),
                 lambda: self.store.fork("a", "d"), lambda: self.store.step("b", "new", {"size": 10}), lambda: self.store.drop("d"),
                 lambda: self.store.merge("e", "new", ["a", "b"], {("new", "size"): 1}), lambda: self.store.merge("f", "new", ["a"])]
        for call in calls:
            call()
            self.assertNotEqual((states[-1], call), (self.state(), calls[0]))
            states.append(self.state())
        self.assertEqual(self.store.last, 3)
        for wanted in reversed(states[:-1]):
            self.assertIsNone(self.store.undo())
            self.assertEqual(self.state(), wanted)
        self.store.undo()
        self.assertEqual((len(self.store), self.store.last), (0, 0))
        self.assert_error(NothingToUndo(), self.store.undo)
        # The numbers that were taken back are given again.
        self.store.put("a", {"size": 7})
        self.assertEqual(self.store.step("a", "new", {"size": 8}), 1)
        self.store.undo()
        self.assertEqual(self.store.step("a", "new", {"size": 9}), 1)

    def test_names_are_new(self):
        self.store.put("b", {})
        seen = []
        for name in self.store:
            seen.append(name)
            self.store.drop(name)
        self.assertEqual((seen, self.store.names()), (["a", "b"], []))
        self.store.names().append("x")
        self.assertEqual(self.store.names(), [])
        document = {"len": 1}
        self.store.put("a", document)
        document.clear()
        self.assertEqual(self.store.copy_of("a").document(), {"len": 1})


class WrongTest(ExampleCase):
    def test_wrong_names(self):
        before = self.state()
        for wrong in odd_values() + ["abcdefghi", "A", 1]:
            self.assert_error(InvalidName(wrong), self.store.put, wrong, 7)
            self.assert_error(InvalidName(wrong), self.store.fork, "a", wrong)
            self.assert_error(InvalidName(wrong), self.store.merge, wrong, "gone", 7)
        for wrong in odd_values() + ["gone", 1]:
            for call in (self.store.copy_of, self.store.drop):
                self.assert_error(UnknownName(wrong), call, wrong)
            self.assert_error(UnknownName(wrong), self.store.step, wrong, "gone", 7)
            self.assert_error(UnknownName(wrong), self.store.fork, wrong, 7)
            self.assert_error(UnknownName(wrong), self.store.merge, "b", "new", ["a", wrong, 7])
            self.assert_error(UnknownProgram(wrong), self.store.step, "a", wrong, 7)
            self.assert_error(UnknownProgram(wrong), self.store.merge, "b", wrong, 7)
        self.assert_error(NameTaken("a"), self.store.put, "a", 7)
        self.assert_error(NameTaken("a"), self.store.fork, "a", "a")
        self.assert_error(NameTaken("a"), self.store.merge, "a", "gone", 7)
        self.assertEqual(self.state(), before)
        self.store.undo()
        self.assert_error(NothingToUndo(), self.store.undo)

    def test_wrong_documents_and_edits(self):
        before = self.state()
        for wrong in odd_values():
            if wrong != {}:
                self.assert_error(InvalidDocument(None), self.store.put, "b", wrong)
                if wrong is not None:
                    self.assert_error(InvalidEdit(None), self.store.step, "a", "new", wrong)
        self.assert_error(InvalidDocument("len"), self.store.put, "b", {"len": True})
        self.assert_error(InvalidEdit("flag"), self.store.step, "a", "new", {"flag": None, "size": "x"})
        self.assertEqual(self.state(), before)

    def test_wrong_merges(self):
        self.store.put("b", {"size": 8})
        self.store.fork("a", "c")
        self.store.step("a", "new", {"size": 9})
        self.store.step("c", "new", {"size": 10})
        before = self.state()
        for wrong in odd_values() + ["a", 1, {"a": 1}, [], ["a"] * 7]:
            if not isinstance(wrong, (list, tuple)) or len(wrong) in (0, 7):
                self.assert_error(InvalidCopies(-1), self.store.merge, "d", "new", wrong, 7)
            if isinstance(wrong, EqualToAll) or wrong != {}:
                self.assert_error(InvalidChoice(None if wrong != 7 else None), self.store.merge, "d", "new", ["a", "c"], wrong)
        self.assert_error(InvalidCopies(1), self.store.merge, "d", "new", ["a", "b", "c"], 7)
        self.assert_error(UnknownName("x"), self.store.merge, "d", "new", ["a", "b", "x"])
        self.assert_error(InvalidChoice(("new", "size")), self.store.merge, "d", "new", ["a", "c"], {("new", "size"): "x"})
        self.assert_error(InvalidChoice(None), self.store.merge, "d", "new", ["a"], {("new", "size"): 1})
        self.assertEqual(self.state(), before)
        self.assertEqual(self.store.merge("d", "new", ["a"], {}), [])


class DrawnTest(KeptCase):
    def test_a_store_beside_a_list_of_states(self):
        for seed in range(150):
            draw = random.Random(seed)
            world = drawn_world(draw)
            store, states = Store(world), [({}, 0)]
            for _ in range(25):
                copies, last = states[-1]
                told = self.drawn_call(draw, world, store, copies, last)
                if told == "undo":
                    if len(states) > 1:
                        states.pop()
                        store.undo()
                    else:
                        self.assert_error(NothingToUndo(), store.undo)
                elif told is not None:
                    states.append(told)
                copies, last = states[-1]
                self.assertEqual((store.last, store.names(), len(store), list(store)), (last, sorted(copies), len(copies), sorted(copies)))
                for name, copy in copies.items():
                    self.assertEqual(store.copy_of(name), copy)

    def drawn_call(self, draw, world, store, copies, last):
        """Make a drawn call; return the state that it should make, "undo", or None if it raised."""
        what = draw.choice(["put", "step", "step", "step", "fork", "drop", "merge", "undo"])
        name, new = draw.choice("abcd"), draw.choice("abcd")
        if what == "undo":
            return "undo"
        if what == "put":
            document = {} if draw.random() < 0.7 else drawn_document(draw, world)
            if new in copies:
                self.assert_error(NameTaken(new), store.put, new, document)
                return None
            store.put(new, document)
            return {**copies, new: Copy(world, document)}, last
        if what == "merge":
            return self.drawn_merge(draw, world, store, copies, last, new)
        if name not in copies:
            self.assert_error(UnknownName(name), store.drop, name)
            return None
        if what == "drop":
            store.drop(name)
            return {one: copies[one] for one in copies if one != name}, last
        if what == "fork":
            if new in copies:
                self.assert_error(NameTaken(new), store.fork, name, new)
                return None
            store.fork(name, new)
            return {**copies, new: copies[name]}, last
        program = draw.choice(world.names())
        edit = drawn_edit(draw, world, program)
        behind = copies[name].stepped(program, edit, number=last + 1)
        number = last + 1 if last + 1 in behind.known else None
        self.assertEqual(store.step(name, program, edit), number)
        return {**copies, name: behind}, number or last

    def drawn_merge(self, draw, world, store, copies, last, new):
        """Merge drawn copies; return the state that it should make, None if it raised."""
        names = [draw.choice("abcd") for _ in range(draw.randint(1, 3))]
        program = draw.choice(world.names())
        if new in copies:
            self.assert_error(NameTaken(new), store.merge, new, program, names)
            return None
        unknown = [name for name in names if name not in copies]
        if unknown:
            self.assert_error(UnknownName(unknown[0]), store.merge, new, program, names)
            return None
        apart = [place for place, name in enumerate(names) if copies[name].root() != copies[names[0]].root()]
        if apart:
            self.assert_error(InvalidCopies(apart[0]), store.merge, new, program, names)
            return None
        join = Join(world, program, [copies[name] for name in names])
        choices = {}
        for one in join.asked():
            kind = world.program(one[0]).own_field(one[1]).kind if one[0] else world.kind_of_field(one[1])
            choices[one] = draw.choice([None, drawn_value(draw, kind)])
        if choices:
            self.assert_error(InvalidChoice(None), store.merge, new, program, names)
        self.assertEqual(store.merge(new, program, names, choices), join.mixed(choices, number=last + 1))
        return {**copies, new: join.joined(choices, number=last + 1)}, last + 1 if choices else last


if __name__ == "__main__":
    unittest.main()

"""Tests of keptedits.copies: copies and the origins of their fields (points 34 and 35)."""

import random
import unittest

from keptedits.copies import Copy
from keptedits.errors import InvalidDocument, InvalidEdit, InvalidNumber, UnknownField, UnknownOwn, UnknownProgram
from keptedits.maps import NumberMap
from keptedits.programs import Own, Program, Write
from keptedits.sets import Numbers
from keptedits.worlds import World
from tests.brute_copies import drawn_copies, shows, told_copy
from tests.helpers import EqualToAll, KeptCase, drawn_document, drawn_edit, drawn_world, odd_values

SAME = NumberMap.same()
LOW = NumberMap.cut(0, 9)
FULL = Numbers.full()
HAND = ("hand", 4)


def origins(copy):
    """Return the origins of all fields, but those that have none."""
    found = {field: copy.origin(field) for field in copy.world.fields()}
    return {field: origin for field, origin in found.items() if origin is not None}


class ExampleTest(KeptCase):
    def setUp(self):
        own = {"x": Own("number", [("a", SAME), ("b", SAME)], settable=FULL, removable=True),
               "y": Own("number", [("c", SAME)], default=5, settable=FULL, removable=True)}
        old = Program("old", own, {"a": Write("x", LOW), "d": Write("x", SAME, leaves=True), "c": Write("y", SAME)})
        drop = Program("drop", {}, {"a": None}, keeps=False)
        move = Program("move", {"z": Own("number", [("a", SAME), ("b", SAME)])}, {"b": Write("z", SAME), "a": None})
        self.world = World({field: "number" for field in "abcd"}, [old, drop, move])
        self.copy = Copy(self.world, {"a": 3, "d": 1})

    def test_a_copy_at_first(self):
        copy = Copy(world=self.world, document={"a": 3, "d": 1})
        self.assertEqual((copy.world, copy.known, copy.document(), copy.root()), (self.world, (), {"a": 3, "d": 1}, {"a": 3, "d": 1}))
        self.assertEqual(origins(copy), {"a": ("root",), "d": ("root",)})
        self.assertEqual(copy.shown("old", "x"), (3, ("root",)))
        self.assertEqual(copy.shown(name="old", own="y"), (5, ("made",)))
        self.assertEqual(Copy(self.world, {}).shown("old", "x"), (None, None))

    def test_written_fields(self):
        behind = self.copy.stepped("old")
        self.assertEqual(behind.document(), {"a": 3, "d": 3, "c": 5})
        self.assertEqual(origins(behind), {"a": ("root",), "d": ("root",), "c": ("made",)})
        hand = self.copy.stepped(name="old", edit={"x": 12}, number=4)
        self.assertEqual((hand.document(), hand.known), ({"a": 9, "d": 12, "c": 5}, (4,)))
        self.assertEqual(origins(hand), {"a": HAND, "d": HAND, "c": ("made",)})
        self.assertEqual(hand.stepped("move").shown("move", "z"), (9, HAND))
        self.assertEqual(hand.root(), {"a": 3, "d": 1})

    def test_removed_fields(self):
        gone = self.copy.stepped("old", {"x": None, "y": None}, number=4)
        # A removed own field takes its fields away, also where the write leaves.
        self.assertEqual((gone.document(), origins(gone)), ({}, {"a": HAND, "d": HAND, "c": HAND}))
        self.assertEqual(gone.shown("old", "y"), (5, HAND))
        self.assertEqual(gone.shown("old", "x"), (None, HAND))
        again = gone.stepped("old")
        self.assertEqual((again.document(), origins(again)), ({"c": 5}, {"a": HAND, "d": HAND, "c": HAND}))
        # A hand that is shown goes on into absent fields.
        moved = gone.stepped("move")
        self.assertEqual(origins(moved), {"a": HAND, "b": HAND, "c": HAND, "d": HAND})

    def test_the_greatest_number_of_absent_sources(self):
        gone = self.copy.stepped("old", {"x": None}, number=4).stepped("move").stepped("old", {"x": 1}, number=7)
        gone = gone.stepped("old", {"x": None}, number=9)
        self.assertEqual((gone.origin("a"), gone.origin("b"), gone.known), (("hand", 9), HAND, (4, 7, 9)))
        self.assertEqual(gone.shown("move", "z"), (None, ("hand", 9)))
        self.assertEqual(gone.stepped("move").origin("b"), ("hand", 9))

    def test_an_own_field_that_has_nothing(self):
        start = Copy(self.world, {"d": 1})
        behind = start.stepped("old")
        self.assertEqual((behind.document(), origins(behind)), ({"c": 5, "d": 1}, {"c": ("made",), "d": ("root",)}))
        kept = Program("kept", {"x": Own("number", [("a", SAME)], settable=FULL)}, {"d": Write("x", SAME), "b": Write("x", SAME)})
        world = World({field: "number" for field in "abd"}, [kept, self.world.program("drop")])
        behind = Copy(world, {"d": 1}).stepped("kept")
        self.assertEqual((behind.document(), origins(behind)), ({}, {}))
        # What was absent keeps its origin where nothing is shown.
        hand = Copy(world, {}).stepped("kept", {"x": 3}, number=4)
        self.assertEqual(origins(hand), {"b": HAND, "d": HAND})
        self.assertEqual(origins(hand.stepped("kept")), {})

    def test_dropped_fields(self):
        behind = self.copy.stepped("drop")
        self.assertEqual((behind.document(), origins(behind)), ({}, {}))
        gone = self.copy.stepped("old", {"x": None}, number=4)
        self.assertEqual(origins(gone.stepped("drop")), {"a": HAND, "d": HAND})

    def test_an_edit_that_edits_nothing(self):
        for number in [None, 0, "x", 4]:
            same = self.copy.stepped("old", {"x": 3, "y": 5}, number=number)
            self.assertEqual((same.known, same.origin("a")), ((), ("root",)))
        half = self.copy.stepped("old", {"x": 3, "y": 6}, number=2)
        self.assertEqual((half.origin("a"), half.origin("c"), half.known), (("root",), ("hand", 2), (2,)))
        # Nothing is removed of an own field that has nothing, so what its write leaves stays.
        left = Copy(self.world, {"d": 1}).stepped("old", {"x": None})
        self.assertEqual((left.document(), left.known), ({"c": 5, "d": 1}, ()))

    def test_wrong_documents(self):
        for wrong in odd_values() + [[("a", 1)], {"x": 1}, {"a": 1, 3: 4}]:
            if not isinstance(wrong, dict) or any(key not in list("abcd") for key in wrong):
                self.assert_error(InvalidDocument(None), Copy, self.world, wrong)
        self.assert_error(InvalidDocument("b"), Copy, self.world, {"c": "x", "b": True, "a": 1})

    def test_wrong_names_edits_and_numbers(self):
        for wrong in odd_values() + ["gone", 1]:
            self.assert_error(UnknownProgram(wrong), self.copy.stepped, wrong, 7, number=0)
            self.assert_error(UnknownProgram(wrong), self.copy.shown, wrong, "gone")
            self.assert_error(UnknownOwn(wrong), self.copy.shown, "old", wrong)
            self.assert_error(UnknownField(wrong), self.copy.origin, wrong)
            if wrong != {} and wrong is not None:
                self.assert_error(InvalidEdit(None), self.copy.stepped, "old", wrong, number=0)
            if not isinstance(wrong, int) or isinstance(wrong, bool):
                self.assert_error(InvalidNumber(wrong), self.copy.stepped, "old", {"x": 4}, number=wrong)
        self.assert_error(InvalidEdit("x"), self.copy.stepped, "old", {"y": "a", "x": True})
        hand = self.copy.stepped("old", {"x": 5}, number=3)
        for wrong in [0, -1, 3]:
            self.assert_error(InvalidNumber(wrong), hand.stepped, "old", {"x": 6}, number=wrong)
        self.assert_error(InvalidNumber(None), hand.stepped, "old", {"x": 6})
        self.assertEqual((hand.known, hand.document()), ((3,), {"a": 5, "c": 5, "d": 5}))
        self.assertEqual(hand.stepped("old", {"x": 6}, number=1).known, (1, 3))

    def test_equal_copies(self):
        hand = self.copy.stepped("old", {"x": 5}, number=3)
        self.assertEqual(hand, Copy(self.world, {"d": 1, "a": 3}).stepped("old", {"x": 5}, number=3))
        for other in [self.copy, self.copy.stepped("old", {"x": 5}, number=4), Copy(self.world, {"a": 3, "d": 2}).stepped("old", {"x": 5}, number=3),
                      hand.stepped("old", {"y": 6}, number=4).stepped("old", {"y": 5}, number=5),
                      Copy(self.world.only("old"), {"a": 3, "d": 1}).stepped("old", {"x": 5}, number=3)]:
            self.assertFalse(hand == other)
        for other in odd_values():
            if not isinstance(other, EqualToAll):
                self.assertFalse(self.copy == other)

    def test_copies_never_change(self):
        document, edit = {"a": 3, "d": 1}, {"x": 4}
        copy = Copy(self.world, document)
        document["a"] = 8
        behind = copy.stepped("old", edit, number=1)
        self.assertEqual(edit, {"x": 4})
        for found in (copy.document(), copy.root(), behind.document(), behind.root()):
            found.clear()
        self.assertEqual((copy, behind.document(), behind.root()), (self.copy, {"a": 4, "d": 4, "c": 5}, {"a": 3, "d": 1}))


class DrawnTest(KeptCase):
    def test_origins_along_drawn_steps(self):
        for seed in range(400):
            draw = random.Random(seed)
            world = drawn_world(draw)
            start = Copy(world, drawn_document(draw, world))
            copies, plain, _ = drawn_copies(draw, world, start, 3, drawn_edit, 6)
            for copy, told in zip(copies, plain):
                self.assertEqual(told_copy(copy), told)
                self.assertEqual(copy.known, tuple(sorted(told[2])))
                for program in world.programs():
                    for own in program.own_fields():
                        self.assertEqual(copy.shown(program.name, own), shows(world, told, program.name, own))


if __name__ == "__main__":
    unittest.main()

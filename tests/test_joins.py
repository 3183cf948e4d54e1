"""Tests of keptedits.joins: readings, sides, joined copies, what is due, mixed and unseen (points 36 to 38)."""

import random
import unittest

from keptedits.copies import Copy
from keptedits.errors import InvalidChoice, InvalidCopies, InvalidNumber, UnknownOwn, UnknownProgram
from keptedits.joins import Join
from keptedits.maps import NumberMap, TextMap
from keptedits.programs import Own, Program, Write
from keptedits.sets import Numbers, Texts
from keptedits.worlds import World
from tests import brute_copies
from tests.brute_copies import drawn_copies, told_copy
from tests.helpers import KeptCase, LikeName, drawn_document, drawn_edit, drawn_value, drawn_world, odd_values

SAME = NumberMap.same()
LOW = NumberMap.cut(0, 9)
FULL = Numbers.full()


class ExampleCase(KeptCase):
    def setUp(self):
        own = {"x": Own("number", [("a", SAME)], default=5, settable=FULL, removable=True),
               "y": Own("number", [("b", SAME)], settable=FULL, removable=True)}
        new = Program("new", own, {"a": Write("x", SAME), "b": Write("y", SAME, leaves=True)})
        old = Program("old", {"x": Own("number", [("a", LOW)], settable=FULL), "w": Own("text", [("t", TextMap.same())], settable=Texts.full())},
                      {"a": Write("x", LOW), "t": Write("w", TextMap.same())})
        self.world = World({"a": "number", "b": "number", "t": "text"}, [new, old, Program("drop", {}, {}, keeps=False)])
        self.start = Copy(self.world, {"a": 20, "t": "k"})

    def step(self, *steps):
        """Return the copy behind steps (program, edit, number)."""
        copy = self.start
        for name, edit, number in steps:
            copy = copy.stepped(name, edit, number=number)
        return copy


class SidesTest(ExampleCase):
    def test_properties_and_readings(self):
        join = Join(world=self.world, name="new", copies=(self.start, self.start))
        self.assertEqual((join.world, join.name, join.copies()), (self.world, "new", [self.start, self.start]))
        self.assertEqual(join.readings(), [("", "t"), ("new", "x"), ("new", "y"), ("old", "w"), ("old", "x")])
        self.assertEqual(Join(self.world, "old", [self.start]).readings()[0], ("", "b"))
        self.assertEqual(Join(self.world, "drop", [self.start]).readings()[0], ("new", "x"))

    def test_sides(self):
        one, other = self.step(("new", {"x": 30}, 1)), self.step(("old", {"x": 4, "w": "z"}, 2))
        join = Join(self.world, "new", [one, self.start, other])
        self.assertEqual(join.sides(("new", "x")), [(0, 1, 30), (2, 2, 4)])
        self.assertEqual(join.sides(reading=("old", "x")), [(0, 1, 9), (2, 2, 4)])
        self.assertEqual(join.sides(("", "t")), [(2, 2, "z")])
        self.assertEqual(join.sides(("new", "y")), [])
        self.assertEqual((join.split_readings(), join.asked()), ([("new", "x"), ("old", "x")], [("new", "x")]))
        self.assertEqual(Join(self.world, "old", [one, other]).asked(), [("old", "x")])
        self.assertEqual(Join(self.world, "drop", [one, other]).asked(), [])

    def test_a_side_of_a_removed_own_field(self):
        gone = self.step(("new", {"x": None}, 1))
        join = Join(self.world, "new", [gone, self.step(("new", {"x": 5}, 2))])
        # The own field shows its default, which the other copy was given.
        self.assertEqual(join.sides(("new", "x")), [(0, 1, None), (1, 2, 5)])
        self.assertEqual(join.asked(), [("new", "x")])

    def test_overtaken_sides(self):
        one = self.step(("new", {"x": 30}, 1))
        later = one.stepped("new", {"x": 31}, number=3)
        join = Join(self.world, "new", [one, later, one])
        self.assertEqual(join.sides(("new", "x")), [(1, 3, 31)])
        # A copy that shows a smaller number, or does not know the edit, does not overtake.
        join = Join(self.world, "new", [one.stepped("new", {"x": 31}, number=9), self.step(("new", {"x": 32}, 5))])
        self.assertEqual(join.sides(("new", "x")), [(0, 9, 31), (1, 5, 32)])
        # Where the later edit is of another own field, both copies have the same hand.
        join = Join(self.world, "new", [one, one.stepped("new", {"y": 1}, number=2)])
        self.assertEqual(join.sides(("new", "x")), [(0, 1, 30), (1, 1, 30)])

    def test_wrong_readings(self):
        join = Join(self.world, "new", [self.start])
        for wrong in odd_values() + ["t", ("", "a"), ("new", "w"), ["", "t"], ("", "t", 1), (LikeName("new"), "x"), ("gone", "x")]:
            self.assert_error(InvalidChoice(wrong), join.sides, wrong)
            self.assert_error(UnknownProgram(wrong), join.due, wrong, "gone")
            self.assert_error(UnknownOwn(wrong), join.due, "new", wrong)

    def test_wrong_copies(self):
        for wrong in odd_values() + [self.start, {"a": self.start}, [], (), [self.start] * 7]:
            if not isinstance(wrong, (list, tuple)) or len(wrong) in (0, 7):
                self.assert_error(InvalidCopies(-1), Join, self.world, "new", wrong)
            if wrong is not self.start:
                self.assert_error(InvalidCopies(1), Join, self.world, "new", [self.start, wrong, 7])
                self.assert_error(InvalidCopies(0), Join, self.world, "new", [wrong])
            if not isinstance(wrong, str) or wrong != "new":
                self.assert_error(UnknownProgram(wrong), Join, self.world, wrong, 7)
        self.assert_error(InvalidCopies(1), Join, self.world, "new", [self.start, Copy(self.world, {})])
        less = Copy(self.world.only("new", "old"), {"a": 20, "t": "k"})
        self.assert_error(InvalidCopies(0), Join, self.world, "new", [less])
        equal = Copy(World(self.world.fields(), self.world.programs()), {"t": "k", "a": 20})
        self.assertEqual(len(Join(self.world, "new", [self.start, equal] * 3).copies()), 6)


class JoinedTest(ExampleCase):
    def test_edits_of_both(self):
        one, other = self.step(("new", {"x": 30}, 1)), self.step(("new", {"y": 3}, 2), ("old", {"w": "z"}, 4))
        join = Join(self.world, "new", [one, other])
        made = join.joined()
        self.assertEqual((made.document(), made.known, made.root()), ({"a": 30, "b": 3, "t": "z"}, (1, 2, 4), {"a": 20, "t": "k"}))
        self.assertEqual([made.origin(field) for field in "abt"], [("hand", 1), ("hand", 2), ("hand", 4)])
        # What "old" did beside its edit, cutting "a", is no edit.
        self.assertEqual((join.mixed(), join.unseen(), join.due("new", "x"), join.due("old", "x")), ([], [], 30, 9))
        self.assertEqual(join.due(name="new", own="y"), 3)
        self.assertEqual(join.due("old", "w"), "z")

    def test_chosen_values(self):
        one, other = self.step(("new", {"x": 30}, 1)), self.step(("new", {"x": 31}, 2))
        join = Join(self.world, "new", [one, other])
        made = join.joined({("new", "x"): -7}, number=3)
        self.assertEqual((made.document(), made.origin("a"), made.known), ({"a": -7, "t": "k"}, ("hand", 3), (1, 2, 3)))
        gone = join.joined(choices={("new", "x"): None}, number=8)
        self.assertEqual((gone.document(), gone.origin("a"), gone.known), ({"t": "k"}, ("hand", 8), (1, 2, 8)))
        self.assertIsNone(join.due("new", "x"))
        # Both copies show 9 to the old program, so it is due there.
        self.assertEqual((join.due("old", "x"), join.sides(("old", "x"))), (9, [(0, 1, 9), (1, 2, 9)]))
        self.assertEqual(join.mixed({("new", "x"): -7}, number=3), [("old", "x")])
        self.assertEqual(join.mixed({("new", "x"): 12}, number=3), [])

    def test_chosen_values_of_kept_fields(self):
        one, other = self.step(("old", {"w": "y"}, 1)), self.step(("old", {"w": "z"}, 2))
        join = Join(self.world, "new", [one, other])
        self.assertEqual((join.asked(), join.split_readings()), ([("", "t")], [("", "t"), ("old", "w")]))
        made = join.joined({("", "t"): "q"}, number=3)
        self.assertEqual((made.document(), made.origin("t")), ({"a": 20, "t": "q"}, ("hand", 3)))
        gone = join.joined({("", "t"): None}, number=3)
        self.assertEqual((gone.document(), gone.origin("t")), ({"a": 20}, ("hand", 3)))

    def test_given_what_is_read(self):
        # The value of the side is what "new" reads of the root; the field is by a hand all the same.
        back = self.step(("new", {"x": 30}, 1), ("new", {"x": 20}, 2))
        made = Join(self.world, "new", [back]).joined()
        self.assertEqual((made.document(), made.origin("a")), ({"a": 20, "t": "k"}, ("hand", 2)))
        # None for an own field that has nothing of the root takes away what its write leaves.
        leave = Program("leave", {"y": Own("number", [("b", SAME)], settable=FULL, removable=True)},
                        {"b": Write("y", SAME), "a": Write("y", SAME, leaves=True)})
        world = World({"a": "number", "b": "number"}, [leave])
        copy = Copy(world, {"a": 1}).stepped("leave", {"y": 4}, number=1).stepped("leave", {"y": None}, number=2)
        made = Join(world, "leave", [copy]).joined()
        self.assertEqual((made.document(), made.origin("a"), made.origin("b")), ({}, ("hand", 2), ("hand", 2)))

    def test_values_need_not_be_settable_nor_removable(self):
        limit = Program("limit", {"x": Own("number", [("a", SAME)], settable=Numbers([(0, 9)]))}, {"a": Write("x", SAME)})
        world = World({"a": "number"}, [limit, self.world.program("new")][:1] + [Program(
            "free", {"x": Own("number", [("a", SAME)], settable=FULL, removable=True)}, {"a": Write("x", SAME)})])
        start = Copy(world, {"a": 1})
        made = Join(world, "limit", [start.stepped("free", {"x": 77}, number=1)]).joined()
        self.assertEqual((made.document(), made.origin("a")), ({"a": 77}, ("hand", 1)))
        made = Join(world, "limit", [start.stepped("free", {"x": None}, number=1)]).joined()
        self.assertEqual((made.document(), made.origin("a")), ({}, ("hand", 1)))
        apart = Join(world, "limit", [start.stepped("free", {"x": 77}, number=1), start.stepped("free", {"x": 78}, number=2)])
        for value in (500, None):
            made = apart.joined({("limit", "x"): value}, number=3)
            self.assertEqual(made.document(), {} if value is None else {"a": value})

    def test_wrong_choices(self):
        one, other = self.step(("new", {"x": 3}, 1), ("old", {"w": "y"}, 2)), self.step(("new", {"x": 4}, 3), ("old", {"w": "z"}, 4))
        join = Join(self.world, "new", [one, other])
        self.assertEqual(join.asked(), [("", "t"), ("new", "x")])
        right = {("", "t"): "q", ("new", "x"): 1}
        for call in (join.joined, join.mixed):
            for wrong in odd_values() + [list(right.items()), {("", "t"): "q"}, {**right, ("new", "y"): 1}, {**right, 3: 1},
                                         {("", "t"): "q", (LikeName("new"), "x"): 1}]:
                self.assert_error(InvalidChoice(None), call, wrong, number=0)
            for wrong in odd_values() + ["q", {}]:
                if wrong is not None:
                    self.assert_error(InvalidChoice(("new", "x")), call, {**right, ("new", "x"): wrong}, number=0)
                if wrong is not None and wrong != "q":
                    self.assert_error(InvalidChoice(("", "t")), call, {("new", "x"): "q", ("", "t"): wrong})
            for wrong in odd_values() + [0, -1, 4, 3]:
                if not isinstance(wrong, int) or isinstance(wrong, bool) or wrong < 5:
                    self.assert_error(InvalidNumber(wrong), call, right, number=wrong)
        self.assertEqual(join.joined(right, number=5).known, (1, 2, 3, 4, 5))
        free = Join(self.world, "new", [one])
        for number in (None, 0, True, "x"):
            self.assertEqual(free.joined({}, number=number).known, (1, 2))
            self.assertEqual(free.mixed(None, number=number), [])
        self.assert_error(InvalidChoice(None), free.joined, right, number=5)

    def test_mixed_and_unseen(self):
        both = Program("both", {"s": Own("number", [("b", SAME), ("a", SAME)], settable=FULL)}, {"a": Write("s", SAME), "b": Write("s", LOW)})
        one = Program("one", {"s": Own("number", [("a", SAME)], settable=FULL)}, {"a": Write("s", SAME)})
        blind = Program("blind", {"n": Own("number", settable=FULL)}, {"c": Write("n", SAME)})
        world = World({"a": "number", "b": "number", "c": "number"}, [both, one, blind])
        start = Copy(world, {"b": 1})
        join = Join(world, "one", [start.stepped("one", {"s": 3}, number=1), start.stepped("blind", {"n": 3}, number=2)])
        self.assertEqual(join.unseen(), [2])
        self.assertEqual((join.due("both", "s"), join.due("one", "s"), join.mixed()), (1, 3, []))
        # "both" joins the edit of "one" as none of its own: "b" hides it, and what "one" reads is 1 then.
        join = Join(world, "both", [start.stepped("one", {"s": 3}, number=1)])
        self.assertEqual((join.joined().document(), join.mixed()), ({"a": 1, "b": 1}, [("one", "s")]))

    def test_results_are_new(self):
        one, other = self.step(("new", {"x": 30}, 1)), self.step(("new", {"x": 31}, 2))
        given = [one, other]
        join = Join(self.world, "new", given)
        given.clear()
        choices = {("new", "x"): 5}
        wanted = join.joined(choices, number=3)
        for told in (join.copies(), join.sides(("new", "x")), join.readings(), join.split_readings(), join.asked(),
                     join.mixed(choices, number=3), join.unseen(), join.joined(choices, number=3).document()):
            told.clear()
        self.assertEqual((choices, join.copies(), join.joined(choices, number=3)), ({("new", "x"): 5}, [one, other], wanted))
        self.assertEqual((join.asked(), len(join.readings()), len(join.sides(("new", "x")))), ([("new", "x")], 5, 2))


class DrawnTest(KeptCase):
    def test_drawn_copies(self):
        splits = mixed = unseen = 0
        for seed in range(500):
            draw = random.Random(seed)
            world = drawn_world(draw)
            root = drawn_document(draw, world)
            copies, plain, number = drawn_copies(draw, world, Copy(world, root), draw.randint(1, 4), drawn_edit)
            for name in world.names():
                join = Join(world, name, copies)
                self.assertEqual(join.readings(), brute_copies.readings(world, name))
                for reading in join.readings():
                    self.assertEqual(join.sides(reading), brute_copies.sides(world, plain, reading))
                apart = brute_copies.split(world, plain, name)
                self.assertEqual(join.split_readings(), apart)
                asked = [one for one in apart if one[0] in ("", name)]
                self.assertEqual(join.asked(), asked)
                self.assertEqual(join.unseen(), brute_copies.unseen(world, plain))
                for reading in join.readings():
                    if reading[0]:
                        wanted = None if reading in apart else brute_copies.due(world, plain, root, reading)
                        self.assertEqual(join.due(*reading), wanted)
                choices = {one: self.chosen(draw, world, one) for one in asked}
                made = join.joined(choices, number=number + 2)
                self.assertEqual(told_copy(made), brute_copies.joined(world, plain, root, name, choices, number + 2))
                self.assertEqual(made.root(), root)
                found = join.mixed(choices, number=number + 2)
                self.assertEqual(found, brute_copies.mixed(world, plain, root, name, choices, number + 2))
                self.check_sequence(draw, join, made, choices, number)
                splits, mixed, unseen = splits + len(asked), mixed + len(found), unseen + len(join.unseen())
        self.assertGreater(min(splits, mixed, unseen), 50)

    def chosen(self, draw, world, reading):
        """Return a drawn value for an asked reading."""
        kind = world.kind_of_field(reading[1]) if not reading[0] else world.program(reading[0]).own_field(reading[1]).kind
        return draw.choice([None, drawn_value(draw, kind), drawn_value(draw, kind)])

    def check_sequence(self, draw, join, made, choices, number):
        """Check that the copies in another sequence, and said twice, are joined to the same copy."""
        copies = draw.sample(join.copies(), len(join.copies()))
        copies = (copies + copies)[:6]
        again = Join(join.world, join.name, copies)
        self.assertEqual(again.joined(choices, number=number + 2), made)
        self.assertEqual((again.asked(), again.unseen()), (join.asked(), join.unseen()))
        self.assertEqual(again.mixed(choices, number=number + 2), join.mixed(choices, number=number + 2))


if __name__ == "__main__":
    unittest.main()

"""Tests of keptedits.peace: edits that disturb each other when copies are joined (point 39)."""

import random
import unittest
from itertools import product

from keptedits.errors import InvalidDocument, InvalidValue, NotSettable, UnknownOwn, UnknownProgram
from keptedits.maps import NumberMap, TextMap
from keptedits.peace import disturbance, disturbs
from keptedits.programs import Own, Program, Write
from keptedits.sets import Numbers, Texts
from keptedits.worlds import World
from tests import brute_copies
from tests.brute import all_own, small_documents, small_world
from tests.helpers import KeptCase, drawn_world, odd_values, some_values

SAME = NumberMap.same()
LOW = NumberMap.cut(0, 9)
FULL = Numbers.full()


def own_disturbs(world, name, first, value, second, other_value, root):
    """Tell by an own look whether two edits (program, own field) disturb each other at a root and two set values."""
    start = brute_copies.root_copy(world, root)
    copies = [brute_copies.stepped(world, start, first[0], {first[1]: value}, {first[1]: 1}),
              brute_copies.stepped(world, start, second[0], {second[1]: other_value}, {second[1]: 2})]
    if brute_copies.split(world, copies, name) or brute_copies.unseen(world, copies):
        return True
    return bool(brute_copies.mixed(world, copies, root, name, {}, None))


def settable_owns(world):
    """Return the pairs of names of the own fields that can be set."""
    return [one for one in all_own(world) if not world.program(one[0]).own_field(one[1]).settable.is_empty]


def set_values(world, one):
    """Return some set values of an own field."""
    told = world.program(one[0]).own_field(one[1])
    return [value for value in some_values(told.kind) if value in told.settable]


class ExampleTest(KeptCase):
    def setUp(self):
        own = {"x": Own("number", [("a", SAME)], settable=FULL), "y": Own("number", [("b", SAME)], settable=Numbers([(0, 5)])),
               "z": Own("number", [("a", SAME)])}
        new = Program("new", own, {"a": Write("x", SAME), "b": Write("y", SAME)})
        old = Program("old", {"s": Own("number", [("b", SAME), ("a", SAME)], settable=FULL)}, {"c": Write("s", SAME)})
        flag = Program("flag", {"k": Own("text", [("w", TextMap.same())], settable=Texts(["on", "off"]))}, {"w": Write("k", TextMap.same())})
        self.world = World({"a": "number", "b": "number", "c": "number", "w": "text"}, [new, old, flag])

    def test_peaceful_edits(self):
        for name in ("new", "old", "flag"):
            self.assertIsNone(disturbance(self.world, name, "new", "x", "flag", "k"))
        self.assertIsNone(disturbance(world=self.world, name="flag", first="flag", own="k", second="new", other="y"))

    def test_edits_that_split(self):
        found = disturbance(self.world, "new", "new", "x", "new", "x")
        self.assertIs(disturbs(self.world, "new", "new", "x", found[1], "new", "x", found[2], found[0]), True)
        self.assertIs(disturbs(self.world, "new", "new", "x", 3, "new", "x", 4, {"b": 1}), True)
        self.assertIs(disturbs(self.world, "new", "new", "x", 3, "new", "x", 3, {"b": 1}), False)

    def test_edits_of_which_one_is_unseen(self):
        # Nobody reads what "old" writes.
        self.assertEqual(disturbance(self.world, "flag", "old", "s", "flag", "k"), ({}, 0, "on"))
        call = dict(world=self.world, name="flag", first="old", own="s", value=3, second="flag", other="k", other_value="on", root={"b": 1})
        self.assertIs(disturbs(**call), True)

    def test_edits_that_mix(self):
        # "old" reads "b", which the other edit makes, ahead of "a".
        found = disturbance(self.world, "new", "new", "x", "new", "y")
        self.assertIs(disturbs(self.world, "new", "new", "x", found[1], "new", "y", found[2], found[0]), True)
        self.assertNotIn("b", found[0])
        self.assertIs(disturbs(self.world, "new", "new", "x", 3, "new", "y", 4, {"b": 1}), False)

    def test_given_what_is_read_is_edited(self):
        self.assertIs(disturbs(self.world, "new", "new", "x", 3, "new", "x", 4, {"a": 3, "b": 1}), True)
        self.assertIs(disturbs(self.world, "new", "new", "x", 3, "flag", "k", "on", {"a": 3, "w": "on"}), False)

    def test_edits_that_are_alike_for_all_set_values(self):
        one = Program("one", {"x": Own("number", [("a", SAME)], settable=FULL)}, {"a": Write("x", NumberMap.constant_map(1))})
        world = World({"a": "number"}, [one])
        self.assertIsNone(disturbance(world, "one", "one", "x", "one", "x"))
        apart = Program("apart", {"x": Own("number", [("a", SAME)], settable=FULL)}, {"a": Write("x", NumberMap.constant_map(2))})
        world = World({"a": "number"}, [one, apart])
        self.assertIsNotNone(disturbance(world, "one", "one", "x", "apart", "x"))

    def test_wrong_names(self):
        calls = [(UnknownProgram, lambda wrong: (wrong, "gone", 1, "gone", 1)), (UnknownProgram, lambda wrong: ("new", wrong, 1, "gone", 1)),
                 (UnknownOwn, lambda wrong: ("new", "new", wrong, "gone", 1)),
                 (UnknownProgram, lambda wrong: ("new", "new", "x", wrong, 1)), (UnknownOwn, lambda wrong: ("new", "new", "x", "flag", wrong))]
        for wrong in odd_values() + ["gone", 1]:
            for error, made in calls:
                name, first, own, second, other = made(wrong)
                self.assert_error(error(wrong), disturbance, self.world, name, first, own, second, other)
                self.assert_error(error(wrong), disturbs, self.world, name, first, own, True, second, other, True, 7)

    def test_wrong_own_fields_and_values(self):
        self.assert_error(NotSettable("z"), disturbance, self.world, "new", "new", "z", "gone", "x")
        self.assert_error(NotSettable("z"), disturbance, self.world, "new", "new", "x", "new", "z")
        self.assert_error(NotSettable("z"), disturbs, self.world, "new", "new", "x", "q", "new", "z", 1, 7)
        for wrong in odd_values() + ["q", {}]:
            self.assert_error(InvalidValue(wrong), disturbs, self.world, "new", "new", "x", wrong, "new", "y", True, 7)
            self.assert_error(InvalidValue(wrong), disturbs, self.world, "new", "new", "x", 1, "new", "y", wrong, 7)
            if not isinstance(wrong, dict):
                self.assert_error(InvalidDocument(None), disturbs, self.world, "new", "new", "x", 1, "new", "y", 2, wrong)
        self.assert_error(InvalidValue(6), disturbs, self.world, "new", "new", "x", 1, "new", "y", 6, {})
        self.assert_error(InvalidDocument("b"), disturbs, self.world, "new", "new", "x", 1, "new", "y", 2, {"c": "a", "b": "b"})


class DrawnTest(KeptCase):
    def test_all_documents_and_set_values_over_a_small_range(self):
        peaceful = disturbed = 0
        for seed in range(400):
            draw = random.Random(seed)
            world = small_world(draw)
            owns = settable_owns(world)
            for name, one, other in product(world.names(), owns, owns):
                if draw.random() > 0.1:
                    continue
                found = disturbance(world, name, one[0], one[1], other[0], other[1])
                if found is not None:
                    root, value, other_value = found
                    self.assertIs(own_disturbs(world, name, one, value, other, other_value, root), True)
                    self.assertIs(disturbs(world, name, *one, value, *other, other_value, root), True)
                    disturbed += 1
                    continue
                peaceful += 1
                values = list(product(set_values(world, one), set_values(world, other)))
                roots = list(small_documents(world, len(world.fields()) if len(world.fields()) < 3 else 2))
                for root in draw.sample(roots, min(25, len(roots))):
                    for value, other_value in values:
                        self.assertIs(own_disturbs(world, name, one, value, other, other_value, root), False)
        self.assertGreater(min(peaceful, disturbed), 20)

    def test_what_disturbs_at_drawn_roots(self):
        for seed in range(300):
            draw = random.Random(seed)
            world = drawn_world(draw)
            owns = settable_owns(world)
            for _ in range(5 if owns else 0):
                one, other, name = draw.choice(owns), draw.choice(owns), draw.choice(world.names())
                value, other_value = draw.choice(set_values(world, one)), draw.choice(set_values(world, other))
                root = {field: draw.choice(some_values(kind)) for field, kind in world.fields().items() if draw.random() < 0.7}
                wanted = own_disturbs(world, name, one, value, other, other_value, root)
                self.assertIs(disturbs(world, name, *one, value, *other, other_value, root), wanted)
                if wanted:
                    self.assertIsNotNone(disturbance(world, name, *one, *other))


if __name__ == "__main__":
    unittest.main()

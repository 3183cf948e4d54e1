"""Tests of keptedits.worlds: worlds (points 9 and 11)."""

import unittest
from unittest import mock

from keptedits.errors import InvalidWorld, UnknownField, UnknownProgram
from keptedits.maps import NumberMap, TextMap
from keptedits.programs import Own, Program, Write
from keptedits.worlds import World
from tests.helpers import KeptCase, odd_values

SAME = NumberMap.same()
TEXT = TextMap.same()


class MadeTest(KeptCase):
    def test_fields(self):
        for wrong in odd_values() + [1, "a", {}, [], {"a": "numbers"}, {"A": "text"}, {1: "text"}, {"a": None}, {"a": []},
                                     {"abcdefghi": "text"}, {name: "text" for name in "abcdefghi"}]:
            self.assert_error(InvalidWorld("fields", None), World, wrong, 7)
        eight = {name: "text" for name in "hgfedcba"}
        self.assertEqual(list(World(eight).fields()), list("abcdefgh"))
        self.assertEqual(World({"a": "number"}).fields(), {"a": "number"})
        self.assertEqual((World.MAX_FIELDS, World.MAX_PROGRAMS), (8, 8))

    def test_the_list_of_programs(self):
        for wrong in odd_values() + [1, "a", {}, [Program(name) for name in "abcdefghi"], [7] * 9]:
            if not isinstance(wrong, (list, tuple)) or len(wrong) > 8:
                self.assert_error(InvalidWorld("programs", None), World, {"a": "text"}, wrong)
        world = World({"a": "text"}, tuple(Program(name) for name in "hgfedcba"))
        self.assertEqual((len(world), world.names()), (8, list("hgfedcba")))

    def test_each_program(self):
        fields = {"a": "number", "b": "text"}
        wrong_programs = odd_values() + [
            1, "p", Program("o"),
            Program("p", {"f": Own("number", [("c", SAME)])}),
            Program("p", {"f": Own("number", [("a", SAME), ("b", SAME)])}),
            Program("p", {"f": Own("number")}, {"c": Write("f", SAME)}),
            Program("p", {"f": Own("number")}, {"b": Write("f", SAME)}),
            Program("p", {"f": Own("text")}, {"a": Write("f", TEXT)}),
            Program("p", None, {"c": None}),
        ]
        for wrong in wrong_programs:
            self.assert_error(InvalidWorld("programs", 1), World, fields, [Program("o"), wrong, 7])
        right = Program("p", {"f": Own("number", [("a", SAME)]), "g": Own("text", [("b", TEXT)])},
                        {"a": Write("f", SAME), "b": None})
        self.assertEqual(World(fields, [right]).programs(), [right])

    def test_what_is_passed_and_returned_is_free(self):
        fields, programs = {"a": "text"}, [Program("p")]
        world = World(fields, programs)
        fields["b"] = "text"
        programs.append(Program("q"))
        world.fields().clear()
        world.programs().clear()
        world.names().clear()
        self.assertEqual((world.fields(), world.programs(), world.names()), ({"a": "text"}, [Program("p")], ["p"]))


class ToldTest(KeptCase):
    def setUp(self):
        self.programs = [Program("q"), Program("p", None, {"b": None}), Program("r", keeps=False)]
        self.world = World(fields={"b": "text", "a": "number"}, programs=self.programs)

    def test_what_it_tells(self):
        world = self.world
        self.assertEqual(list(world.fields().items()), [("a", "number"), ("b", "text")])
        self.assertEqual((world.programs(), world.names()), (self.programs, ["q", "p", "r"]))
        self.assertEqual(world.program(name="p"), self.programs[1])
        self.assertEqual(world.kind_of_field(field="a"), "number")
        self.assertEqual((len(world), len(World({"a": "text"}))), (3, 0))

    def test_unknown_names(self):
        for wrong in odd_values() + [1, "a", "pp"]:
            self.assert_error(UnknownProgram(wrong), self.world.program, wrong)
            self.assert_error(UnknownProgram(wrong), self.world.only, "p", wrong, 7)
            self.assertIs(wrong in self.world, False)
        for wrong in odd_values() + [1, "p", "c"]:
            self.assert_error(UnknownField(wrong), self.world.kind_of_field, wrong)
        self.assertIs("p" in self.world, True)

    def test_only(self):
        self.assertEqual(self.world.only("r", "q", "r").names(), ["q", "r"])
        self.assertEqual(self.world.only().names(), [])
        self.assertEqual(self.world.only("r", "p", "q"), self.world)

    def test_with_program(self):
        changed = Program("p", keeps=False)
        self.assertEqual(self.world.with_program(changed).programs(), [Program("q"), changed, self.programs[2]])
        self.assertEqual(self.world.with_program(program=Program("s")).names(), ["q", "p", "r", "s"])
        self.assertEqual(self.world.names(), ["q", "p", "r"])
        self.assert_error(InvalidWorld("programs", 1), self.world.with_program, Program("p", None, {"c": None}))
        self.assert_error(InvalidWorld("programs", 3), self.world.with_program, Program("s", None, {"c": None}))
        full = World({"a": "text"}, [Program(name) for name in "abcdefgh"])
        self.assert_error(InvalidWorld("programs", None), full.with_program, Program("i"))
        for wrong in odd_values() + [1, "p"]:
            self.assert_error(InvalidWorld("programs", 3), self.world.with_program, wrong)
            self.assert_error(InvalidWorld("programs", None), full.with_program, wrong)
        self.assertEqual(len(full.with_program(Program("c", keeps=False))), 8)

    def test_equality(self):
        same = World({"a": "number", "b": "text"}, tuple(self.programs))
        self.assertEqual(self.world, same)
        for other in [World({"a": "number"}, [Program("q")]), self.world.only("q", "p"), mock.ANY, "q",
                      World({"a": "number", "b": "text"}, list(reversed(self.programs))),
                      World({"a": "text", "b": "text"}, self.programs)]:
            self.assertFalse(self.world == other)
        self.assertNotEqual(World({"a": "number"}), World({"b": "number"}))


if __name__ == "__main__":
    unittest.main()

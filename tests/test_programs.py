"""Tests of keptedits.programs: own fields, writes and programs (points 9, 10 and 11)."""

import unittest
from unittest import mock

from keptedits.errors import InvalidOwn, InvalidProgram, InvalidWrite, UnknownOwn
from keptedits.maps import NumberMap, TextMap
from keptedits.programs import Own, Program, Write
from keptedits.sets import Numbers, Texts
from tests.helpers import EqualToAll, KeptCase, odd_values

SAME = NumberMap.same()
TEXT = TextMap.same()


class OwnTest(KeptCase):
    def test_properties(self):
        own = Own("number", [("len", SAME), ("size", NumberMap.cut(0, 9))], default=5, settable=Numbers([(0, 9)]),
                  removable=True)
        self.assertEqual(own.kind, "number")
        self.assertEqual(own.sources, (("len", SAME), ("size", NumberMap.cut(0, 9))))
        self.assertIs(type(own.sources), tuple)
        self.assertEqual((own.default, own.settable, own.removable), (5, Numbers([(0, 9)]), True))

    def test_defaults(self):
        for kind, none in [("number", Numbers()), ("text", Texts())]:
            own = Own(kind)
            self.assertEqual((own.kind, own.sources, own.default, own.settable, own.removable),
                             (kind, (), None, none, False))
            self.assertEqual(own, Own(kind=kind, sources=(), default=None, settable=none, removable=False))

    def test_invalid_kind_and_sources(self):
        for wrong in odd_values() + ["numbers", 1]:
            self.assert_error(InvalidOwn("kind", None), Own, wrong, 7, default=[], settable=7, removable=7)
        for wrong in odd_values() + [1, "a", {"a": SAME}]:
            if not isinstance(wrong, (list, tuple)):
                self.assert_error(InvalidOwn("sources", None), Own, "number", wrong, default=[], settable=7)
        for wrong in odd_values() + [1, ("b",), ["b", SAME], ("b", SAME, 0), ("b", TEXT), ("b", 1), (1, SAME),
                                     ("a", SAME), ("", SAME), ("abcdefghi", SAME), ([], SAME), (EqualToAll(), SAME),
                                     ("b", None), ("b", EqualToAll())]:
            self.assert_error(InvalidOwn("sources", 1), Own, "number", [("a", SAME), wrong, 7], default=[])
        self.assert_error(InvalidOwn("sources", 0), Own, "text", [("a", SAME)])

    def test_invalid_default_settable_and_removable(self):
        for wrong in odd_values() + ["a"]:
            if wrong is not None:
                self.assert_error(InvalidOwn("default", None), Own, "number", default=wrong, settable=7, removable=7)
        self.assert_error(InvalidOwn("default", None), Own, "text", default=1)
        for wrong in odd_values() + [1, Texts(), Texts.full(), Numbers.of(4), [1, 2], SAME]:
            if wrong is not None and not (isinstance(wrong, Numbers) and wrong.size != 1):
                self.assert_error(InvalidOwn("settable", None), Own, "number", settable=wrong, removable=7)
        self.assert_error(InvalidOwn("settable", None), Own, "text", settable=Texts(["a"]))
        self.assert_error(InvalidOwn("settable", None), Own, "text", settable=Numbers())
        for wrong in odd_values() + [0, 1]:
            if wrong is not True and wrong is not False:
                self.assert_error(InvalidOwn("removable", None), Own, "number", removable=wrong)

    def test_settable_sets(self):
        for values in [Numbers(), Numbers.of(1, 5), Numbers.full(), Numbers([(None, 0)])]:
            self.assertEqual(Own("number", settable=values).settable, values)
        for values in [Texts(), Texts(["a", "b"]), Texts.full(), Texts(["a"], others=True)]:
            self.assertEqual(Own("text", settable=values).settable, values)

    def test_equality(self):
        def made(**changes):
            told = {"kind": "number", "sources": [("a", SAME)], "default": 1, "settable": Numbers.of(1, 2),
                    "removable": True}
            told.update(changes)
            return Own(told.pop("kind"), told.pop("sources"), **told)
        self.assertEqual(made(), made(sources=(("a", NumberMap([(None, 1, None), (2, None, None)])),)))
        for changed in [{"sources": []}, {"sources": [("b", SAME)]}, {"default": None}, {"default": 2},
                        {"settable": None}, {"removable": False}]:
            self.assertNotEqual(made(), made(**changed))
        self.assertNotEqual(Own("number"), Own("text"))
        for value in odd_values() + [mock.ANY]:
            self.assertFalse(Own("number") == value)

    def test_what_is_passed_is_copied(self):
        sources = [("a", SAME)]
        own = Own("number", sources)
        sources.append(("b", SAME))
        self.assertEqual(own.sources, (("a", SAME),))
        with self.assertRaises(TypeError):
            Own("number", [], 5)


class WriteTest(KeptCase):
    def test_properties(self):
        write = Write("size", SAME, leaves=True)
        self.assertEqual((write.own, write.mapping, write.leaves), ("size", SAME, True))
        self.assertIs(Write(own="size", mapping=TEXT).leaves, False)

    def test_errors_in_sequence(self):
        for wrong in odd_values() + [1, "abcdefghi"]:
            self.assert_error(InvalidWrite("own"), Write, wrong, 7, leaves=7)
        for wrong in odd_values() + [1, "a", Numbers.full()]:
            if not isinstance(wrong, TextMap):
                self.assert_error(InvalidWrite("mapping"), Write, "size", wrong, leaves=7)
        for wrong in odd_values() + [0, 1]:
            if wrong is not True and wrong is not False:
                self.assert_error(InvalidWrite("leaves"), Write, "size", SAME, leaves=wrong)
        with self.assertRaises(TypeError):
            Write("size", SAME, True)

    def test_equality(self):
        self.assertEqual(Write("a", SAME), Write("a", NumberMap.cut(None, None)))
        for other in [Write("b", SAME), Write("a", TEXT), Write("a", SAME, leaves=True), mock.ANY, "a"]:
            self.assertFalse(Write("a", SAME) == other)


class ProgramTest(KeptCase):
    def setUp(self):
        self.own = {"size": Own("number", [("len", SAME)]), "name": Own("text")}
        self.writes = {"wide": None, "len": Write("size", SAME)}
        self.program = Program("old", self.own, self.writes, keeps=False)

    def test_what_it_tells(self):
        program = self.program
        self.assertEqual((program.name, program.keeps), ("old", False))
        self.assertEqual(list(program.own_fields().items()), sorted(self.own.items()))
        self.assertEqual(list(program.writes().items()), [("len", Write("size", SAME)), ("wide", None)])
        self.assertEqual(program.known_fields(), ["len", "wide"])
        self.assertEqual(program.own_field(own="name"), Own("text"))
        self.assertEqual(repr(program), "Program('old', ['name', 'size'], ['len', 'wide'])")
        self.assertEqual(Program.MAX_OWN, 4)
        self.assertEqual(repr(Program("old", {"size": self.own["size"]}, {"len": Write("size", SAME)})),
                         "Program('old', ['size'], ['len'])")

    def test_defaults(self):
        program = Program("a")
        self.assertEqual((program.own_fields(), program.writes(), program.keeps), ({}, {}, True))
        self.assertEqual(program, Program(name="a", own=None, writes=None, keeps=True))
        self.assertEqual(program, Program("a", {}, {}))

    def test_invalid_name_and_own(self):
        for wrong in odd_values() + [1, "abcdefghi"]:
            self.assert_error(InvalidProgram("name", None), Program, wrong, 7, 7, keeps=7)
        five = {name: Own("text") for name in "abcde"}
        for wrong in odd_values() + [1, [], {"a": 1}, {"a": None}, {1: Own("text")}, {"A": Own("text")}, five,
                                     {"abcdefghi": Own("text")}, {True: Own("text")}]:
            if wrong is not None:
                self.assert_error(InvalidProgram("own", None), Program, "a", wrong, 7, keeps=7)
        five.pop("e")
        self.assertEqual(Program("a", five).own_fields(), five)

    def test_invalid_writes_and_keeps(self):
        good = Write("size", SAME)
        for wrong in odd_values() + [1, [], {"a": 1}, {1: good}, {"A": good}, {"": None}, {"a": False},
                                     {"a": Write("gone", SAME), "b": 7}]:
            if wrong is not None:
                self.assert_error(InvalidProgram("writes", None), Program, "a", self.own, wrong, keeps=7)
        for wrong in [Write("gone", SAME), Write("size", TEXT), Write("name", SAME)]:
            writes = {"d": wrong, "c": wrong, "b": None, "a": good}
            self.assert_error(InvalidProgram("writes", "c"), Program, "a", self.own, writes, keeps=7)
        self.assert_error(InvalidProgram("writes", "a"), Program, "a", None, {"a": good})
        for wrong in odd_values() + [0, 1]:
            if wrong is not True and wrong is not False:
                self.assert_error(InvalidProgram("keeps", None), Program, "a", keeps=wrong)
        with self.assertRaises(TypeError):
            Program("a", {}, {}, True)

    def test_unknown_own_fields(self):
        for wrong in odd_values() + [1, "len", "old"]:
            self.assert_error(UnknownOwn(wrong), self.program.own_field, wrong)

    def test_equality(self):
        same = Program("old", dict(reversed(self.own.items())), dict(reversed(self.writes.items())), keeps=False)
        self.assertEqual(self.program, same)
        for other in [Program("new", self.own, self.writes, keeps=False), Program("old", self.own, self.writes),
                      Program("old", self.own, {}, keeps=False), Program("old", {}, {"wide": None}, keeps=False),
                      Program("old", self.own, {"wide": None, "len": None}, keeps=False), mock.ANY, "old"]:
            self.assertFalse(self.program == other)

    def test_what_is_passed_and_returned_is_free(self):
        self.own.pop("name")
        self.writes["wide"] = 7
        self.program.own_fields().clear()
        self.program.writes().clear()
        self.program.known_fields().clear()
        self.assertEqual(list(self.program.own_fields()), ["name", "size"])
        self.assertEqual(self.program.writes(), {"len": Write("size", SAME), "wide": None})
        self.assertEqual(self.program.known_fields(), ["len", "wide"])


if __name__ == "__main__":
    unittest.main()

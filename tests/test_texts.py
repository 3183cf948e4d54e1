"""Tests of keptedits.texts: texts of values, maps, sets, documents and worlds, and reading them (points 43 and 44)."""

import random
import unittest

from keptedits.errors import InvalidText
from keptedits.maps import NumberMap, TextMap
from keptedits.programs import Own, Program, Write
from keptedits.sets import Numbers, Texts
from keptedits.texts import (document_text, map_text, parse_document, parse_map, parse_set, parse_world, set_text,
                             value_text, world_text)
from keptedits.worlds import World
from tests.helpers import (KeptCase, drawn_document, drawn_map, drawn_numbers, drawn_texts, drawn_world, odd_values)

MAPS = {
    "*..*=same": NumberMap.same(), "*..*=-3": NumberMap.constant_map(-3),
    "*..0=0,1..9=same,10..*=9": NumberMap.cut(0, 9), "*..-6=7,-5..-5=same,-4..*=7": NumberMap([(None, -6, 7), (-5, -5, None), (-4, None, 7)]),
}
TEXT_MAPS = {"*=*": TextMap.same(), "*=a": TextMap({}, "a"), "a=b,b=a,*=*": TextMap({"b": "a", "a": "b", "c": "c"}),
             "a=b,zz=z,*=q": TextMap({"zz": "z", "a": "b"}, "q")}
SETS = {"none": Numbers(), "*..*": Numbers.full(), "0..9,12..*": Numbers([(12, None), (0, 9)]), "*..-2,5..5": Numbers([(5, 5), (None, -2)])}
TEXT_SETS = {"in:": Texts(), "out:": Texts.full(), "in:a,bb": Texts(["bb", "a"]), "out:abcdefghijkl,z": Texts(["z", "abcdefghijkl"], others=True)}
WORLD_TEXT = """field a number
field b number
field w text
program old drop
own size number 0..9,12..* 5 no
source b *..*=same
source a *..0=0,1..9=same,10..*=9
own word text out:on - yes
source w a=b,*=*
write a size *..*=same leave
clear b
write w word *=q go
program empty keep
program last keep
own n number none - no
own t text in: none yes
"""


def example():
    """Return the world of WORLD_TEXT."""
    own = {"word": Own("text", [("w", TextMap({"a": "b"}))], settable=Texts(["on"], others=True), removable=True),
           "size": Own("number", [("b", NumberMap.same()), ("a", NumberMap.cut(0, 9))], default=5, settable=Numbers([(0, 9), (12, None)]))}
    old = Program("old", own, {"w": Write("word", TextMap({}, "q")), "b": None, "a": Write("size", NumberMap.same(), leaves=True)}, keeps=False)
    last = Program("last", {"t": Own("text", default="none", removable=True), "n": Own("number")})
    return World({"w": "text", "b": "number", "a": "number"}, [old, Program("empty"), last])


class TellTest(KeptCase):
    def test_values(self):
        self.assertEqual([value_text(value) for value in (0, -12, "none", None)], ["0", "-12", "none", "-"])
        self.assertEqual(value_text(value=7), "7")

    def test_maps_and_sets(self):
        for kind, table in (("number", MAPS), ("text", TEXT_MAPS)):
            for text, mapping in table.items():
                self.assertEqual(map_text(mapping), text)
                self.assertEqual(parse_map(text, kind), mapping)
        for kind, table in (("number", SETS), ("text", TEXT_SETS)):
            for text, values in table.items():
                self.assertEqual(set_text(values), text)
                self.assertEqual(parse_set(text, kind), values)
        self.assertEqual(map_text(mapping=TextMap.same()) + set_text(values=Numbers()), "*=*none")
        self.assertEqual([parse_map(text="*=*", kind="text"), parse_set(text="in:", kind="text")], [TextMap.same(), Texts()])

    def test_documents(self):
        world = example()
        for text, document in [("-", {}), ("a=-3", {"a": -3}), ("a=0 b=12 w=a", {"w": "a", "b": 12, "a": 0})]:
            self.assertEqual(document_text(document), text)
            self.assertEqual(parse_document(world, text), document)
        self.assertEqual((document_text(document={"a": 1}), parse_document(world=world, text="a=1")), ("a=1", {"a": 1}))

    def test_worlds(self):
        self.assertEqual(world_text(example()), WORLD_TEXT)
        self.assertEqual(parse_world(WORLD_TEXT), example())
        self.assertEqual((world_text(world=World({"a": "text"})), parse_world(text="field a text\n")), ("field a text\n", World({"a": "text"})))

    def test_drawn_texts(self):
        for seed in range(300):
            draw = random.Random(seed)
            world = drawn_world(draw)
            self.assertEqual(parse_world(world_text(world)), world)
            document = drawn_document(draw, world)
            self.assertEqual(parse_document(world, document_text(document)), document)
            for kind, values in (("number", drawn_numbers(draw)), ("text", drawn_texts(draw))):
                self.assertEqual(parse_set(set_text(values), kind), values)
                mapping = drawn_map(draw, kind)
                self.assertEqual(parse_map(map_text(mapping), kind), mapping)


class WrongTest(KeptCase):
    def test_wrong_maps(self):
        wrong_texts = odd_values() + [
            0, "*..*", "*..*=", "*..*=+1", "*..*=01", "*..*=-0", "*..*=None", "*..*=Same", " *..*=same", "*..*=same ", "*..*=same,", ",*..*=same",
            "*..*=same\n", "0..*=same", "*..0=same", "*..0=0,2..*=1", "*..0=0,1..*=0", "*..0=0, 1..*=1", "*..0=0,1..9=same,10..*=9,", "*..5=5,4..*=1",
            "*...*=same", "*..*..*=same", "*.*=same", "*..*=1=1", "*..00=0,1..*=1", "*..1=0,1..*=1", "1..*=1,*..0=0", "*..--1=0,0..*=1", "*..0=1,1..-1=2,0..*=1",
            "*..0=same,1..*=same", "*..0=0,1..1=same,2..*=1", "*..-1=same,0..0=0,1..*=same"]
        for wrong in wrong_texts:
            self.assert_error(InvalidText(0), parse_map, wrong, "number")
        wrong_texts = odd_values() + [
            0, "*", "*=", "=*", "*=*,", "*=*,*=*", "a=b", "a=a,*=*", "b=a,a=b,*=*", "a=b,a=b,*=*", "a=b,a=c,*=*", "a=q,*=q", "A=b,*=*", "a=b, *=*",
            "a=*,*=*", "a=b=c,*=*", "*=*,a=b", "*=*\n", "abcdefghijklm=a,*=*", "*=1", "a=1,*=*", "*..*=same"]
        for wrong in wrong_texts:
            self.assert_error(InvalidText(0), parse_map, wrong, "text")
        for wrong in odd_values() + ["Number", "texts"]:
            for text in ("*..*=same", "*=*"):
                self.assert_error(InvalidText(0), parse_map, text, wrong)
            for text in ("none", "in:"):
                self.assert_error(InvalidText(0), parse_set, text, wrong)
        self.assert_error(InvalidText(0), parse_map, "*=*", "number")

    def test_wrong_sets(self):
        for wrong in odd_values() + [0, "None", "none,", "none,1..2", "1", "1..", "..1", "1..2,", "1..2,3..4", "3..4,1..2", "1..2,2..5", "2..1", "1..2 ", "+1..2", "01..2",
                                     "-0..0", "*..*,1..2", "*", "1..2,*..0", "1...2", "1..2..3", "in:", "in:a"]:
            self.assert_error(InvalidText(0), parse_set, wrong, "number")
        for wrong in odd_values() + [0, "in", "out", "In:", "in:b,a", "in:a,a", "in:a,", "in:,a", "in: a", "in:A", "in:a:b", "inn:a", ":a", "none", "1..2",
                                     "in:abcdefghijklm", "in:1"]:
            self.assert_error(InvalidText(0), parse_set, wrong, "text")

    def test_wrong_documents(self):
        for wrong in odd_values() + [0, " ", "a", "a=", "=1", "a=1 ", " a=1", "a=1  b=2", "b=2 a=1", "a=1 a=1", "a=1 a=2", "a=01", "a=+1", "a=-0", "a=x", "w=1", "w=A",
                                     "a=-", "c=1", "- a=1", "a=1 -", "--", "a=1\n", "a=1=1", "a =1", "w=abcdefghijklm"]:
            self.assert_error(InvalidText(0), parse_document, example(), wrong)

    def test_wrong_worlds_that_are_no_texts(self):
        for wrong in odd_values() + [0]:
            if not isinstance(wrong, str):
                self.assert_error(InvalidText(0), parse_world, wrong)

    def check_line(self, line, *lines):
        """Check the number of the wrong line."""
        self.assert_error(InvalidText(line), parse_world, "".join(f"{one}\n" for one in lines))

    def test_lines_that_lack(self):
        self.assert_error(InvalidText(1), parse_world, "")
        self.assert_error(InvalidText(1), parse_world, "field a number")
        self.assert_error(InvalidText(2), parse_world, "field a number\nprogram p keep")
        self.assert_error(InvalidText(2), parse_world, "field a number\n ")
        self.assert_error(InvalidText(1), parse_world, "field a\nprogram p keep")
        self.check_line(1, "")
        self.check_line(2, "field a number", "")

    def test_wrong_fields(self):
        for wrong in ["fields a number", "field  a number", "field a number ", " field a number", "field a", "field a numbers", "field A number", "field a1 text",
                      "field abcdefghi text", "field", "Field a text", "field a text text", "program p keep", "own x number none - no", "clear a"]:
            self.check_line(1, wrong, "field b number")
        self.check_line(2, "field b number", "field a number")
        self.check_line(2, "field b number", "field b text")
        self.check_line(9, *[f"field {name} text" for name in "abcdefghi"])
        self.check_line(3, "field a number", "program p keep", "field b number")

    def test_wrong_programs(self):
        start = ["field a number", "field w text"]
        for wrong in ["program p", "program p kept", "program P keep", "program p keep x", "source a *..*=same", "own x number none - no", "write a x *..*=same go",
                      "clear a", "other"]:
            self.check_line(3, *start, wrong)
        self.check_line(5, *start, "program p keep", "clear a", "program p drop")
        self.check_line(11, *start, *[f"program {name} keep" for name in "abcdefghi"])
        # What is right by itself is wrong behind other lines only.
        self.check_line(4, *start, "program q keep", "program q keep", "program r keep")

    def test_wrong_own_fields(self):
        start = ["field a number", "field w text", "program p keep"]
        for wrong in ["own x number none -", "own x number none - no no", "own x number none - maybe", "own X number none - no", "own x numbers none - no", "own x number in: - no",
                      "own x text none - no", "own x number 1..1 - no", "own x text in:a - no", "own x number none a no", "own x text in: 1 no", "own x number none -0 no",
                      "own x number 2..1 - no", "own x number 1..2,3..4 - no", "own x number none  no", "own x text in:b,a - no", "own x number none None no"]:
            self.check_line(4, *start, wrong)
        self.check_line(5, *start, "own x number none - no", "own x number none - no")
        self.check_line(5, *start, "own x number none - no", "own b number none - no")
        self.check_line(8, *start, *[f"own {name} number none - no" for name in "bcdef"])
        self.check_line(5, *start, "clear a", "own x number none - no")
        self.assertEqual(len(parse_world("".join(f"{one}\n" for one in start + [f"own {name} number none - no" for name in "bcde"])).program("p").own_fields()), 4)

    def test_wrong_sources(self):
        start = ["field a number", "field w text", "program p keep", "own x number none - no"]
        for wrong in ["source a", "source a *..*=same x", "source b *..*=same", "source w *=*", "source w *..*=same", "source a *=*", "source a *..0=same,1..*=same", "source A *..*=same"]:
            self.check_line(5, *start, wrong)
        self.check_line(6, *start, "source a *..*=same", "source a *..*=1")
        self.check_line(6, *start, "clear a", "source a *..*=same")
        self.check_line(7, *start, "own y text in: - no", "source w *=*", "source a *=*")

    def test_wrong_writes(self):
        start = ["field a number", "field b number", "field w text", "program p keep", "own x number none - no", "own y text in: - no"]
        for wrong in ["write a x *..*=same", "write a x *..*=same stay", "write a z *..*=same go", "write a y *=* go", "write w x *..*=same go", "write a x *=* go",
                      "write c x *..*=same go", "write a x *..*=same go go", "clear", "clear c", "clear a b", "write a - *..*=same go"]:
            self.check_line(7, *start, wrong)
        for first in ["write b x *..*=same go", "clear b"]:
            for wrong in ["write a x *..*=same go", "write b x *..*=same leave", "clear a", "clear b"]:
                self.check_line(8, *start, first, wrong)
        # Own fields and known fields of another program are none of this one.
        self.check_line(8, *start, "program q keep", "write a x *..*=same go")
        self.assertEqual(parse_world("".join(f"{one}\n" for one in start + ["clear b", "program q keep", "clear a"])).program("q").known_fields(), ["a"])

    def test_worlds_spoilt_at_each_place(self):
        lines = WORLD_TEXT.split("\n")[:-1]
        for place in range(len(WORLD_TEXT)):
            for spoilt in (WORLD_TEXT[:place] + WORLD_TEXT[place + 1:], WORLD_TEXT[:place] + " " + WORLD_TEXT[place:], WORLD_TEXT[:place] + "\n" + WORLD_TEXT[place:],
                           WORLD_TEXT[:place], WORLD_TEXT[:place] + "0" + WORLD_TEXT[place + 1:]):
                self.check_spoilt(spoilt)
        for place in range(len(lines)):
            for other in range(len(lines)):
                moved = lines[:place] + [lines[other]] + lines[place + 1:]
                self.check_spoilt("".join(f"{one}\n" for one in moved))

    def check_spoilt(self, text):
        """Check that a text is a text of a world, or that the first wrong line is told, by an own look.

        Each text of a world is one up to each of its lines behind the first, so a line is right if such a text ends with it.
        """
        try:
            self.assertEqual(world_text(parse_world(text)), text)
        except InvalidText as error:
            lines = text.split("\n")
            whole = error.line - 1
            if whole > 0:
                ahead = "".join(f"{one}\n" for one in lines[:whole])
                self.assertEqual(world_text(parse_world(ahead)), ahead)
            if error.line < len(lines):
                self.assert_error(InvalidText(error.line), parse_world, "".join(f"{one}\n" for one in lines[:error.line]))

    def test_texts_spoilt_at_each_place(self):
        for kind, tables in (("number", (MAPS, SETS)), ("text", (TEXT_MAPS, TEXT_SETS))):
            for table, parse, tell in ((tables[0], parse_map, map_text), (tables[1], parse_set, set_text)):
                for text in table:
                    for place in range(len(text) + 1):
                        for letter in ["", "0", "1", "-", "+", ",", ".", "*", "=", " ", "a", "b", "\n"]:
                            for spoilt in (text[:place] + letter + text[place:], text[:place] + letter + text[place + 1:]):
                                try:
                                    self.assertEqual(tell(parse(spoilt, kind)), spoilt)
                                except InvalidText as error:
                                    self.assertEqual(error.line, 0)

    def test_documents_spoilt_at_each_place(self):
        world = example()
        text = "a=10 b=-12 w=ab"
        for place in range(len(text) + 1):
            for letter in ["", "0", "1", "-", "=", " ", "a", "b", "\n"]:
                for spoilt in (text[:place] + letter + text[place:], text[:place] + letter + text[place + 1:]):
                    try:
                        self.assertEqual(document_text(parse_document(world, spoilt)), spoilt)
                    except InvalidText as error:
                        self.assertEqual(error.line, 0)


if __name__ == "__main__":
    unittest.main()

"""Tests of keptedits.putting: the lists of a pass, putting back, lists over a row (points 16 and 17)."""

import random
import unittest

from keptedits.errors import InvalidList, InvalidRow, UnknownField, UnknownOwn, UnknownProgram
from keptedits.lists import SourceList
from keptedits.maps import NumberMap, TextMap
from keptedits.passes import passed, read
from keptedits.programs import Own, Program, Write
from keptedits.putting import field_list, over_row, own_list, pass_lists, put_back
from keptedits.sets import Numbers
from keptedits.worlds import World
from tests.helpers import KeptCase, drawn_document, drawn_list, drawn_world, odd_values

SAME = NumberMap.same()
TEXT = TextMap.same()
LOW = NumberMap.cut(0, 9)
FIELDS = "abcdefgh"


def always(value):
    """Return the map that takes all integers to a value."""
    return NumberMap.constant_map(value)


def numbers(entries=(), end=None):
    """Return a source list of numbers."""
    return SourceList("number", entries, end)


class ExampleCase(KeptCase):
    def setUp(self):
        old = Program("old", {"size": Own("number", [("len", SAME)], default=5, settable=Numbers.full())},
                      {"len": Write("size", NumberMap.cut(0, 99))}, keeps=False)
        new = Program("new", {"size": Own("number", [("size", SAME), ("len", SAME)])},
                      {"size": Write("size", SAME), "len": None})
        both = Program("both", {"size": Own("number", [("size", LOW), ("len", SAME)]), "none": Own("number")},
                       {"size": Write("size", SAME, leaves=True), "len": Write("none", SAME, leaves=True)})
        sure = Program("sure", {"size": Own("number", [("size", SAME)], default=20)},
                       {"len": Write("size", LOW, leaves=True)})
        self.world = World({"len": "number", "size": "number", "name": "text"}, [old, new, both, sure])


class ListsTest(ExampleCase):
    def test_own_lists(self):
        self.assertEqual(own_list(self.world, "old", "size"), numbers([("len", SAME)], 5))
        self.assertEqual(own_list(self.world, "new", "size"), numbers([("size", SAME), ("len", SAME)]))
        self.assertEqual(own_list(world=self.world, name="both", own="none"), numbers())
        for wrong in odd_values() + [1, "len"]:
            self.assert_error(UnknownProgram(wrong), own_list, self.world, wrong, 7)
            self.assert_error(UnknownOwn(wrong), own_list, self.world, "old", wrong)

    def test_field_lists(self):
        self.assertEqual(field_list(self.world, "len"), numbers([("len", SAME)]))
        self.assertEqual(field_list(world=self.world, field="name"), SourceList("text", [("name", TEXT)]))
        for wrong in odd_values() + [1, "old", "gone"]:
            self.assert_error(UnknownField(wrong), field_list, self.world, wrong)

    def test_the_lists_of_passes(self):
        name = SourceList("text", [("name", TEXT)])
        self.assertEqual(pass_lists(self.world, "old"), {
            "len": numbers([("len", NumberMap.cut(0, 99))], 5), "name": SourceList("text"), "size": numbers()})
        self.assertEqual(pass_lists(self.world, "new"), {
            "len": numbers(), "name": name, "size": numbers([("size", SAME), ("len", SAME)])})
        # A write that leaves: the field follows, if it is no entry and the end is None.
        self.assertEqual(pass_lists(world=self.world, name="both"), {
            "len": numbers([("len", SAME)]), "name": name, "size": numbers([("size", LOW), ("len", SAME)])})
        self.assertEqual(pass_lists(self.world, "sure"), {
            "len": numbers([("size", LOW)], 9), "name": name, "size": numbers([("size", SAME)])})
        self.assertEqual(list(pass_lists(self.world, "sure")), ["len", "name", "size"])
        for wrong in odd_values() + [1, "len"]:
            self.assert_error(UnknownProgram(wrong), pass_lists, self.world, wrong)

    def test_the_lists_of_drawn_passes(self):
        draw = random.Random(11)
        for _ in range(300):
            world = drawn_world(draw)
            name, document = draw.choice(world.names()), drawn_document(draw, world)
            behind = passed(world, name, document)
            lists = pass_lists(world, name)
            self.assertEqual(list(lists), list(world.fields()))
            for field, told in lists.items():
                self.assertEqual(told.kind, world.kind_of_field(field))
                self.assertEqual(told.at(document), behind.get(field))
            for own in world.program(name).own_fields():
                self.assertEqual(own_list(world, name, own).at(document), read(world, name, document).get(own))


class PutBackTest(ExampleCase):
    def test_ordinary_lists(self):
        new = own_list(self.world, "new", "size")
        self.assertEqual(put_back(self.world, "new", new), new)
        # The pass writes len always, so its end is reached and taken through the entry's map.
        self.assertEqual(put_back(self.world, "old", new), numbers([("len", NumberMap.cut(0, 99))], 5))
        self.assertEqual(put_back(self.world, "old", numbers([("len", LOW), ("size", SAME)], 7)),
                         numbers([("len", LOW)], 5))
        self.assertEqual(put_back(self.world, "old", numbers([("size", SAME)], 7)), numbers([], 7))
        self.assertEqual(put_back(self.world, "new", numbers([("len", LOW), ("size", LOW)], 7)),
                         numbers([("size", LOW), ("len", LOW)], 7))
        # A field that has stood earlier is left out.
        self.assertEqual(put_back(world=self.world, name="both", first=numbers([("len", LOW), ("size", SAME)])),
                         numbers([("len", LOW), ("size", LOW)]))
        self.assertEqual(put_back(self.world, "sure", numbers([("len", always(3)), ("size", SAME)])), numbers([], 3))
        self.assertEqual(put_back(self.world, "old", numbers([], 4)), numbers([], 4))
        self.assertEqual(put_back(self.world, "old", numbers()), numbers())

    def test_rows(self):
        new = own_list(self.world, "new", "size")
        self.assertEqual(over_row(self.world, [], new), new)
        self.assertEqual(over_row(self.world, ["old"], new), put_back(self.world, "old", new))
        # The last pass of the row is the first one before which the list is put back.
        first = over_row(self.world, ["both", "sure", "old"], new)
        self.assertEqual(first, numbers([("size", LOW), ("len", LOW)], 9))
        self.assertEqual(over_row(world=self.world, row=("old", "sure", "both"), first=new), numbers([], 9))

    def test_errors_of_put_back(self):
        text = SourceList("text", [("len", TEXT)])
        gone = numbers([("gone", SAME)])
        for wrong in odd_values() + [1, "len"]:
            self.assert_error(UnknownProgram(wrong), put_back, self.world, wrong, 7)
            self.assert_error(InvalidList(-1), put_back, self.world, "old", wrong)
        for wrong, position in [(text, 0), (gone, 0), (numbers([("len", SAME), ("size", SAME), ("name", SAME)]), 2),
                                (numbers([("len", SAME), ("gone", SAME), ("name", SAME)], 4), 1)]:
            self.assert_error(InvalidList(position), put_back, self.world, "old", wrong)
            self.assert_error(InvalidList(position), over_row, self.world, ["old"], wrong)
            self.assert_error(InvalidList(position), over_row, self.world, [], wrong)
        # Positions are those of the normal entries.
        self.assert_error(InvalidList(0), put_back, self.world, "old", numbers([("len", always(1)), ("gone", always(1))]))
        self.assertEqual(put_back(self.world, "old", numbers([("gone", always(1))], 1)), numbers([], 1))

    def test_errors_of_over_row(self):
        for wrong in odd_values() + [1, "old", {"old": 1}]:
            if not isinstance(wrong, (list, tuple)):
                self.assert_error(InvalidRow(-1), over_row, self.world, wrong, 7)
            if not isinstance(wrong, str) or wrong != "old":
                self.assert_error(InvalidRow(1), over_row, self.world, ["old", wrong, 7], 7)
            self.assert_error(InvalidList(-1), over_row, self.world, ["old"], wrong)
            self.assert_error(InvalidList(-1), over_row, self.world, [], wrong)


class DrawnTest(KeptCase):
    def test_put_back_against_passes(self):
        draw = random.Random(12)
        for _ in range(300):
            world = drawn_world(draw)
            kind = draw.choice(sorted(set(world.fields().values())))
            first = drawn_list(draw, kind, [field for field in world.fields() if world.kind_of_field(field) == kind])
            name = draw.choice(world.names())
            row = [draw.choice(world.names()) for _ in range(draw.randint(0, 4))]
            back, over = put_back(world, name, first), over_row(world, row, first)
            for _ in range(12):
                document = drawn_document(draw, world)
                self.assertEqual(back.at(document), first.at(passed(world, name, document)))
                behind = document
                for one in row:
                    behind = passed(world, one, behind)
                self.assertEqual(over.at(document), first.at(behind))

    def test_a_row_is_put_back_step_by_step(self):
        draw = random.Random(13)
        for _ in range(200):
            world = drawn_world(draw)
            first = field_list(world, draw.choice(list(world.fields())))
            row = [draw.choice(world.names()) for _ in range(draw.randint(0, 5))]
            found = first
            for name in reversed(row):
                found = put_back(world, name, found)
            self.assertEqual(over_row(world, row, first), found)

    def test_long_rows(self):
        draw = random.Random(14)
        world = drawn_world(draw)
        first = field_list(world, "u")
        row = [draw.choice(world.names()) for _ in range(200)]
        document = {field: 3 if kind == "number" else "a" for field, kind in world.fields().items()}
        behind = document
        for name in row:
            behind = passed(world, name, behind)
        self.assertEqual(over_row(world, row, first).at(document), behind.get("u"))


class LongRowsTest(KeptCase):
    """Rows of 199 names over eight fields, eight sources for each own field, and a list of eight entries."""

    def setUp(self):
        programs = []
        for k, name in enumerate("pqrs"):
            own = {one: Own("number", [(FIELDS[(i + j + k) % 8], self.mapping(j + k)) for i in range(8)])
                   for j, one in enumerate("xyz")}
            programs.append(Program(name, own, {FIELDS[i]: Write("xyz"[(i + k) % 3], self.mapping(i + k)) for i in range(8)}))
        self.world = World({field: "number" for field in FIELDS}, programs)
        self.first = numbers([(FIELDS[i], self.mapping(i)) for i in range(8)], 3)
        self.row = ["pqrs"[at % 4] for at in range(199)]

    @staticmethod
    def mapping(i):
        """Return a map of four pieces."""
        return NumberMap([(None, i - 10, 0), (i - 9, i + 4, None), (i + 5, i + 9, i), (i + 10, None, None)])

    def test_the_list_over_the_row(self):
        same = NumberMap([(None, -5, 0), (-4, 4, None), (5, 9, 0), (10, 12, 3), (13, 14, 0), (15, None, None)])
        found = over_row(self.world, self.row, self.first)
        self.assertEqual(found, numbers([(field, same) for field in FIELDS], 3))
        # Over the row said twice, the list is put back over the row once more.
        self.assertEqual(over_row(self.world, self.row + self.row, self.first), over_row(self.world, self.row, found))

    def test_values_behind_the_row(self):
        draw = random.Random(15)
        found = over_row(self.world, self.row, self.first)
        for _ in range(40):
            document = {field: draw.randint(-12, 25) for field in draw.sample(FIELDS, draw.randint(0, 8))}
            behind = document
            for name in self.row:
                behind = passed(self.world, name, behind)
            self.assertEqual(found.at(document), self.first.at(behind))

    def test_rows_that_begin_and_end_alike(self):
        draw = random.Random(16)
        for _ in range(10):
            row = [draw.choice("pqrs") for _ in range(draw.randint(160, 199))]
            cut = draw.randint(0, len(row))
            behind = over_row(self.world, row[cut:], self.first)
            self.assertEqual(over_row(self.world, row, self.first), over_row(self.world, row[:cut], behind))


if __name__ == "__main__":
    unittest.main()

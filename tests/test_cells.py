"""Tests of keptedits.cells: maps as places of cells, beside the maps themselves."""

import random
import unittest

from keptedits.cells import NumberCells, TextCells, cuts_around, cuts_of_map, cuts_of_set
from keptedits.maps import NumberMap, TextMap
from tests.helpers import KeptCase, drawn_map, drawn_numbers, drawn_texts, drawn_value, some_values


class CellsTest(KeptCase):
    def made(self, kind, maps, values=()):
        """Return the cells that suffice for some maps and values."""
        cuts = [cut for one in maps for cut in cuts_of_map(one)] + [cut for value in values for cut in cuts_around(value)]
        return NumberCells(cuts) if kind == "number" else TextCells(cuts)

    def test_drawn_maps(self):
        for seed in range(300):
            draw = random.Random(seed)
            for kind in ("number", "text"):
                one, other = drawn_map(draw, kind), drawn_map(draw, kind)
                value = drawn_value(draw, kind)
                cells = self.made(kind, [one, other], [value])
                here, there = cells.places_taken(one), cells.places_taken(other)
                self.assertEqual((len(here), cells.map_of(here), cells.map_of(there)), (cells.count_cells(), one, other))
                self.assertEqual(cells.map_of(tuple(there[place] for place in here)), one.then(other))
                self.assertEqual(cells.value_at(here[cells.place_of(value)]), one.at(value))
                more = drawn_map(draw, kind)
                found = cells.places_taken(more)
                if found is not None:
                    self.assertEqual(cells.map_of(found), more)

    def test_cells_that_do_not_suffice(self):
        cells = self.made("number", [NumberMap.cut(0, 9)])
        for wrong in [NumberMap.cut(0, 8), NumberMap.constant_map(4), NumberMap.cut(None, 10), NumberMap.constant_map(-1)]:
            self.assertIsNone(cells.places_taken(wrong))
        self.assertEqual(cells.map_of(cells.places_taken(NumberMap.cut(None, 0))), NumberMap.cut(None, 0))
        self.assertEqual([cells.place_of(value) is None for value in (0, 9, 4, -1, 10)], [False, False, True, True, True])
        texts = self.made("text", [TextMap({"a": "b"}, "c")])
        for wrong in [TextMap({"a": "d"}), TextMap({"d": "a"}), TextMap({}, "d")]:
            self.assertIsNone(texts.places_taken(wrong))
        self.assertEqual(texts.map_of(texts.places_taken(TextMap({"c": "a"}))), TextMap({"c": "a"}))

    def test_places_of_drawn_sets(self):
        for seed in range(200):
            draw = random.Random(seed)
            for kind, values in (("number", drawn_numbers(draw)), ("text", drawn_texts(draw))):
                cuts = cuts_of_set(values) + [cut for value in some_values(kind)[1:6] for cut in cuts_around(value)]
                cells = NumberCells(cuts) if kind == "number" else TextCells(cuts)
                places = cells.places_within(values)
                for value in some_values(kind)[1:6]:
                    self.assertIs(cells.place_of(value) in places, value in values)
                self.assertEqual(cells.count_cells() - 1 in places, values.size is None and self.has_last(values))
                self.assertIs(cells.has_cuts(cuts + cuts_of_set(values)), True)
                self.assertIs(cells.has_cuts(cuts + cuts_around(99 if kind == "number" else "z")), False)

    def has_last(self, values):
        """Tell whether a set without a bound has all values behind some value."""
        return values.kind == "text" or values.stretches()[-1][1] is None

    def test_no_cuts(self):
        cells = self.made("number", [NumberMap.same()])
        self.assertEqual((cells.count_cells(), cells.places_taken(NumberMap.same()), cells.value_at(0)), (1, (0,), None))
        self.assertIsNone(cells.place_of(some_values("number")[0]))
        texts = self.made("text", [TextMap.same()])
        self.assertEqual((texts.count_cells(), texts.places_taken(TextMap.same()), texts.value_at(0)), (1, (0,), None))


if __name__ == "__main__":
    unittest.main()

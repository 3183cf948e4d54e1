"""Tests of keptedits.maps: maps of numbers and of texts (points 7 and 8)."""

import random
import unittest
from unittest import mock

from keptedits.errors import InvalidMap, InvalidValue, Unlike
from keptedits.maps import Map, NumberMap, TextMap
from keptedits.sets import Numbers, Texts
from tests.helpers import (EqualToAll, KeptCase, drawn_map, drawn_number_map, drawn_number_pieces, drawn_numbers,
                           drawn_texts, odd_values, some_values)

HUGE = 10 ** 29 + 7
WINDOW = range(-12, 13)


def plain_result(pieces, value):
    """Return where given pieces take an integer, told by the words of point 7."""
    for first, last, what in pieces:
        if (first is None or value >= first) and (last is None or value <= last):
            return value if what is None else what
    raise AssertionError("a gap")


def many_pieces(draw):
    """Return many drawn pieces."""
    pieces, first = [], None
    for last in sorted(draw.sample(range(-100, 100), 60)) + [None]:
        pieces.append((first, last, draw.choice([None, draw.randint(-100, 100)])))
        first = None if last is None else last + 1
    return pieces


class DocumentTest(unittest.TestCase):
    def test_the_example(self):
        low = NumberMap.cut(0, 9)
        found = [low.at(-4), low.image(Numbers([(5, None)])), low.before(Numbers.of(9)), low.apart(NumberMap.same()),
                 low.then(NumberMap.constant_map(2)).constant()]
        self.assertEqual(repr(found), "[0, Numbers([(5, 9)]), Numbers([(9, None)]), -1, 2]")

    def test_repr(self):
        self.assertEqual(repr(NumberMap.cut(0, 9)), "NumberMap([(None, 0, 0), (1, 9, None), (10, None, 9)])")
        self.assertEqual(repr(TextMap({"a": "b"})), "TextMap({'a': 'b'}, None)")
        self.assertEqual(repr(TextMap({"c": "a", "b": "a", "a": "d"}, "d")), "TextMap({'b': 'a', 'c': 'a'}, 'd')")


class NormalPiecesTest(KeptCase):
    def test_normal_pieces(self):
        for given, told in [
            ([(None, None, None)], [(None, None, None)]),
            ([(None, None, 4)], [(None, None, 4)]),
            ([(None, 2, None), (3, None, None)], [(None, None, None)]),
            ([(None, 2, 5), (3, None, 5)], [(None, None, 5)]),
            # The first piece takes along the integer at which it agrees with the next one.
            ([(None, -1, 0), (0, 9, None), (10, None, 9)], [(None, 0, 0), (1, 9, None), (10, None, 9)]),
            ([(None, 4, None), (5, None, 5)], [(None, 5, None), (6, None, 5)]),
            ([(None, 4, None), (5, 5, 5), (6, None, 0)], [(None, 5, None), (6, None, 0)]),
            # A piece that begins at an integer that is taken to itself.
            ([(None, 4, 0), (5, 5, None), (6, None, 0)], [(None, 4, 0), (5, 5, None), (6, None, 0)]),
            ([(None, 4, 0), (5, 5, 5), (6, None, 0)], [(None, 4, 0), (5, 5, None), (6, None, 0)]),
            ([(None, 4, 0), (5, 5, None), (6, 8, 5), (9, None, 1)], [(None, 4, 0), (5, 8, 5), (9, None, 1)]),
            ([(None, 4, 0), (5, 8, 5), (9, None, 1)], [(None, 4, 0), (5, 8, 5), (9, None, 1)]),
            ([(None, 4, 0), (5, 6, None), (7, 8, 6), (9, None, 1)],
             [(None, 4, 0), (5, 6, None), (7, 8, 6), (9, None, 1)]),
            ([(None, 4, 0), (5, None, None)], [(None, 4, 0), (5, None, None)]),
            ([(None, 4, 0), (5, None, 5)], [(None, 4, 0), (5, None, 5)]),
            ([(None, 4, 0), (5, 5, 5), (6, 6, 6), (7, None, 1)], [(None, 4, 0), (5, 6, None), (7, None, 1)]),
            ([(None, 4, 0), (5, 5, 7), (6, 7, 7), (8, None, None)], [(None, 4, 0), (5, 7, 7), (8, None, None)]),
            ([(None, -HUGE, HUGE), (1 - HUGE, None, HUGE)], [(None, None, HUGE)]),
        ]:
            self.assertEqual(NumberMap(given).pieces(), told)
            self.assertEqual(NumberMap(tuple(given)).pieces(), told)

    def test_many_pieces_of_one_integer_are_one(self):
        pieces = [(None, -1, -1)] + [(value, value, value) for value in range(1500)] + [(1500, None, None)]
        self.assertEqual(NumberMap(pieces).pieces(), [(None, -1, -1), (0, None, None)])

    def test_the_words_of_point_8(self):
        draw = random.Random(2)
        for _ in range(1500):
            given = drawn_number_pieces(draw)
            self.check_normal(given, NumberMap(given).pieces())

    def check_normal(self, given, pieces):
        for value in WINDOW:
            self.assertEqual(plain_result(pieces, value), plain_result(given, value))
        for position, (start, last, what) in enumerate(pieces):
            if position:
                target, follower = plain_result(given, start), plain_result(given, start + 1)
                wanted = target if target != start else start if follower == start else None
                self.assertEqual(what, wanted, (given, pieces))
            if last is not None:
                self.assertNotEqual(plain_result(given, last + 1), last + 1 if what is None else what)
                self.assertEqual(pieces[position + 1][0], last + 1)

    def test_equal_maps_have_equal_pieces(self):
        draw = random.Random(3)
        for _ in range(1500):
            one, other = drawn_number_pieces(draw), drawn_number_pieces(draw)
            alike = all(plain_result(one, value) == plain_result(other, value) for value in WINDOW)
            self.assertIs(NumberMap(one) == NumberMap(other), alike)
            self.assertIs(NumberMap(one).pieces() == NumberMap(other).pieces(), alike)


class MadeTest(KeptCase):
    def test_invalid_pieces(self):
        for given in odd_values() + [1, "a", {}, {(None, None, None)}, [], ()]:
            if not isinstance(given, (list, tuple)) or not given:
                self.assert_error(InvalidMap(-1), NumberMap, given)
        good = (None, 3, 0)
        for wrong in odd_values() + [
                1, [4, None, 0], (4, None), (4, None, 0, 0), (5, None, 0), (3, None, 0), (None, None, 0), (True, None, 0),
                (4, True, 0), (4, None, True), (4, None, "a"), (4, None, []), ([], None, 0), (4, 3, 0), (4, 9, 0),
                (EqualToAll(), None, 0), (4, EqualToAll(), 0), (4, None, EqualToAll())]:
            self.assert_error(InvalidMap(1), NumberMap, [good, wrong])
            self.assert_error(InvalidMap(0), NumberMap, [wrong, good])
        self.assert_error(InvalidMap(1), NumberMap, [good, (4, None, 0), (5, None, 0)])
        self.assert_error(InvalidMap(1), NumberMap, [good, (4, 3, 0), 7])
        self.assert_error(InvalidMap(2), NumberMap, [good, (4, 4, 0), (5, 5, 0)])
        self.assert_error(InvalidMap(0), NumberMap, [(0, None, 0)])
        self.assert_error(InvalidMap(0), NumberMap, [(None, 0, 0)])
        self.assert_error(InvalidMap(0), NumberMap, [(None, None, 0), (1, None, 0)])
        self.assert_error(InvalidMap(1), NumberMap, [(None, 0, 0), (True, None, 0)])

    def test_made_maps(self):
        self.assertEqual(NumberMap.same().pieces(), [(None, None, None)])
        self.assertEqual(NumberMap.constant_map(value=3).pieces(), [(None, None, 3)])
        for wrong in odd_values() + ["a"]:
            self.assert_error(InvalidValue(wrong), NumberMap.constant_map, wrong)
            self.assert_error(InvalidValue(wrong), NumberMap.reset, 0, 3, wrong)
            self.assert_error(InvalidValue(wrong), NumberMap.reset, None, None, wrong)
        for first, last in [(3, 2), (True, 2), (0, True), ("a", 1), (1, "a"), ([], None), (None, {}), (False, None)]:
            self.assert_error(InvalidMap(-1), NumberMap.cut, first, last)
            self.assert_error(InvalidMap(-1), NumberMap.reset, first, last, "a")

    def test_cut_and_reset(self):
        for value in WINDOW:
            self.assertEqual(NumberMap.cut(-2, 3).at(value), min(max(value, -2), 3))
            self.assertEqual(NumberMap.cut(None, 3).at(value), min(value, 3))
            self.assertEqual(NumberMap.cut(-2, None).at(value), max(value, -2))
            self.assertEqual(NumberMap.cut(first=4, last=4).at(value), 4)
            self.assertEqual(NumberMap.reset(-2, 3, 9).at(value), value if -2 <= value <= 3 else 9)
            self.assertEqual(NumberMap.reset(None, 3, 0).at(value), value if value <= 3 else 0)
            self.assertEqual(NumberMap.reset(first=-2, last=None, value=5).at(value), value if value >= -2 else 5)
        self.assertEqual(NumberMap.cut(None, None), NumberMap.same())
        self.assertEqual(NumberMap.reset(None, None, 4), NumberMap.same())
        self.assertEqual(NumberMap.cut(3, 3), NumberMap.constant_map(3))
        self.assertEqual(NumberMap.reset(3, 3, 3), NumberMap.constant_map(3))

    def test_text_maps(self):
        self.assertEqual(TextMap(), TextMap.same())
        self.assertEqual(TextMap(None, None), TextMap({}))
        self.assertEqual(TextMap.constant_map(value="a"), TextMap({}, "a"))
        self.assertEqual(TextMap({"b": "a", "a": "a", "c": "c"}).exceptions(), {"b": "a"})
        self.assertEqual(TextMap({"b": "a", "a": "a", "c": "d"}, "a").exceptions(), {"c": "d"})
        self.assertEqual(TextMap(exceptions={"a": "a"}, rest="b").exceptions(), {"a": "a"})
        self.assertEqual(list(TextMap({"c": "a", "aa": "b", "b": "a"}).exceptions()), ["aa", "b", "c"])
        self.assertEqual([TextMap({}, "b").rest, TextMap({"a": "b"}).rest], ["b", None])

    def test_invalid_text_maps(self):
        for wrong in odd_values() + [1, "ab", [], [("a", "b")], {1: "a"}, {"a": 1}, {"a": None}, {"a": "A"}, {"": "a"}]:
            if wrong is not None:
                self.assert_error(InvalidMap(-1), TextMap, wrong)
                if not isinstance(wrong, str) or wrong != "ab":
                    self.assert_error(InvalidMap(-1), TextMap, {}, wrong)
        for wrong in odd_values() + [1]:
            self.assert_error(InvalidValue(wrong), TextMap.constant_map, wrong)

    def test_what_is_passed_and_returned_is_free(self):
        pieces, exceptions = [(None, None, 3)], {"a": "b"}
        numbers, texts = NumberMap(pieces), TextMap(exceptions)
        pieces.append(7)
        exceptions["c"] = "d"
        numbers.pieces().append(7)
        texts.exceptions()["c"] = "d"
        self.assertEqual(numbers, NumberMap.constant_map(3))
        self.assertEqual(texts.exceptions(), {"a": "b"})
        with self.assertRaises(AttributeError):
            numbers.kind = "text"


class BothTest(KeptCase):
    def test_kinds_and_equality(self):
        self.assertEqual([NumberMap.same().kind, TextMap.same().kind], ["number", "text"])
        self.assertNotEqual(NumberMap.same(), TextMap.same())
        self.assertNotEqual(TextMap({"a": "b"}), TextMap({"a": "b"}, "a"))
        for value in odd_values() + [[(None, None, None)], mock.ANY]:
            if not isinstance(value, Map):
                self.assertFalse(NumberMap.same() == value)
                self.assertFalse(TextMap.same() == value)
                self.assertTrue(TextMap.same() != value)

    def test_at_asks_for_a_value_of_the_kind(self):
        for wrong in odd_values() + ["a"]:
            self.assert_error(InvalidValue(wrong), NumberMap.same().at, wrong)
        for wrong in odd_values() + [1]:
            self.assert_error(InvalidValue(wrong), TextMap.same().at, wrong)
        self.assertEqual(NumberMap.same().at(value=HUGE), HUGE)

    def test_unlike_maps_and_sets(self):
        for one, full, other in [(NumberMap.same(), Numbers.full(), TextMap.same()),
                                 (TextMap.same(), Texts.full(), NumberMap.same())]:
            for wrong in odd_values() + [1, "a", full, other]:
                if not isinstance(wrong, Map) or wrong.kind != one.kind:
                    self.assert_error(Unlike(), one.then, wrong)
                    self.assert_error(Unlike(), one.apart, wrong)
                    self.assert_error(Unlike(), one.apart, wrong, 7)
            for wrong in odd_values() + [1, "a", one, Texts() if one.kind == "number" else Numbers()]:
                if type(wrong) is type(full):
                    continue
                self.assert_error(Unlike(), one.image, wrong)
                self.assert_error(Unlike(), one.before, wrong)
                if wrong is not None:
                    self.assert_error(Unlike(), one.constant, wrong)
                    self.assert_error(Unlike(), one.apart, one, wrong)

    def test_constant(self):
        self.assertEqual(NumberMap.constant_map(4).constant(), 4)
        self.assertEqual(NumberMap.cut(0, 9).constant(), None)
        self.assertEqual(NumberMap.cut(0, 9).constant(Numbers([(None, -1)])), 0)
        self.assertEqual(NumberMap.cut(0, 9).constant(among=Numbers.of(5)), 5)
        self.assertEqual(NumberMap.cut(0, 9).constant(Numbers()), None)
        self.assertEqual(TextMap({}, "a").constant(), "a")
        self.assertEqual(TextMap({"b": "a"}, "a").constant(), "a")
        self.assertEqual(TextMap({"b": "c"}, "a").constant(), None)
        self.assertEqual(TextMap({"b": "c"}, "a").constant(Texts(["b"], others=True)), "a")
        self.assertEqual(TextMap({"b": "c"}).constant(Texts(["b", "c"])), "c")
        self.assertEqual(TextMap().constant(Texts(["b"], others=True)), None)
        self.assertEqual(TextMap({}, "a").constant(Texts()), None)

    def test_apart(self):
        self.assertEqual(NumberMap.cut(0, 9).apart(NumberMap.same()), -1)
        self.assertEqual(NumberMap.cut(0, 9).apart(NumberMap.same(), Numbers([(0, None)])), 10)
        self.assertEqual(NumberMap.cut(0, 9).apart(NumberMap.same(), among=Numbers([(0, 9)])), None)
        self.assertEqual(NumberMap.same().apart(NumberMap.constant_map(0)), 1)
        self.assertEqual(TextMap({}, "a").apart(TextMap()), "b")
        self.assertEqual(TextMap({"b": "c"}).apart(other=TextMap()), "b")
        self.assertEqual(TextMap({}, "a").apart(TextMap({}, "b")), "a")
        self.assertEqual(TextMap({"a": "b"}, "a").apart(TextMap({}, "b")), "b")
        self.assertEqual(TextMap({"a": "b"}, "a").apart(TextMap({}, "b"), Texts(["a"])), None)

    def test_images_without_a_bound(self):
        low = NumberMap.cut(0, 9)
        self.assertEqual(low.image(Numbers.full()), Numbers([(0, 9)]))
        self.assertEqual(low.image(Numbers()), Numbers())
        self.assertEqual(low.before(Numbers([(None, 0)])), Numbers([(None, 0)]))
        self.assertEqual(low.before(Numbers([(10, None)])), Numbers())
        self.assertEqual(TextMap({"a": "b"}).image(Texts.full()), Texts(["a"], others=True))
        self.assertEqual(TextMap({"a": "b"}, "c").image(Texts(["d"], others=True)), Texts(["b", "c"]))
        self.assertEqual(TextMap({"a": "b"}).before(Texts(["b"], others=True)), Texts(["a", "b"], others=True))
        self.assertEqual(TextMap({"a": "b"}, "c").before(Texts(["c"])), Texts(["a"], others=True))

    def test_drawn_maps_against_their_values(self):
        draw = random.Random(4)
        for kind, drawn in [("number", drawn_numbers), ("text", drawn_texts)] * 400:
            self.check_maps(drawn_map(draw, kind), drawn_map(draw, kind), drawn(draw), some_values(kind))

    def check_maps(self, one, other, among, values):
        behind = one.then(other)
        image, before = one.image(among), one.before(among)
        held = [value for value in values if value in among]
        reached = {one.at(value) for value in held}
        for value in values:
            self.assertEqual(behind.at(value), other.at(one.at(value)))
            self.assertIs(value in before, one.at(value) in among)
            self.assertTrue(value not in reached or value in image)
            if abs(value) <= 10 if isinstance(value, int) else value in "abcd":
                self.assertIs(value in image, value in reached, (one, among, value))
        self.assertIs(one == other, all(one.at(value) == other.at(value) for value in values))
        least = next((value for value in held if one.at(value) != other.at(value)), None)
        self.assertEqual(one.apart(other, among), least)
        self.assertEqual(one.apart(other), next((v for v in values if one.at(v) != other.at(v)), None))
        self.assertEqual(one.constant(among), reached.pop() if len(reached) == 1 and image.size == 1 else None)

    def test_maps_of_many_pieces(self):
        draw = random.Random(15)
        for _ in range(10):
            one, other = many_pieces(draw), many_pieces(draw)
            self.assertGreater(len(NumberMap(one).pieces()), 20)
            behind = NumberMap(one).then(NumberMap(other))
            for value in range(-110, 111):
                self.assertEqual(NumberMap(one).at(value), plain_result(one, value))
                self.assertEqual(behind.at(value), plain_result(other, plain_result(one, value)))

    def test_then_keeps_huge_bounds(self):
        draw = random.Random(5)
        for _ in range(100):
            one = drawn_number_map(draw)
            self.assertEqual(one.then(NumberMap.same()), one)
            self.assertEqual(NumberMap.same().then(one), one)
        far = NumberMap.cut(-HUGE, HUGE).then(NumberMap.reset(0, HUGE - 1, HUGE))
        self.assertEqual(far.pieces(), [(None, -1, HUGE), (0, HUGE, None), (HUGE + 1, None, HUGE)])


if __name__ == "__main__":
    unittest.main()

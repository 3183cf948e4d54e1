"""Tests of keptedits.sets: values, kinds, the natural order, and sets (points 2, 5 and 6)."""

import random
import unittest
from unittest import mock

from keptedits.errors import InvalidSet, InvalidValue, Unlike
from keptedits.maps import NumberMap
from keptedits.sets import Numbers, Texts, ValueSet, is_value, kind_of, natural
from tests.helpers import EqualToAll, KeptCase, drawn_numbers, drawn_texts, odd_values, some_values

HUGE = 10 ** 29 + 7


class ValuesTest(KeptCase):
    def test_values_of_each_kind(self):
        for value in [0, -1, 1, HUGE, -HUGE]:
            self.assertIs(is_value(value, "number"), True)
            self.assertIs(is_value(value, "text"), False)
            self.assertEqual(kind_of(value), "number")
        for value in ["a", "z", "abcdefghijkl", "zzzzzzzzzzzz"]:
            self.assertIs(is_value(value, "text"), True)
            self.assertIs(is_value(value, "number"), False)
            self.assertEqual(kind_of(value), "text")

    def test_other_values_are_none(self):
        for value in odd_values() + ["abcdefghijklm", "-", "a-", "{", "`", "Z"]:
            self.assertIs(is_value(value, "number"), False)
            self.assertIs(is_value(value, "text"), False)
            self.assert_error(InvalidValue(value), kind_of, value)
            self.assert_error(InvalidValue(value), natural, value)

    def test_any_value_as_kind(self):
        for kind in odd_values() + ["numbers", "Number", 1, "a"]:
            self.assertIs(is_value(1, kind), False)
            self.assertIs(is_value("a", kind), False)

    def test_natural_order_of_numbers(self):
        self.assertEqual([natural(0), natural(3), natural(-3)], [(0, 0), (3, 0), (3, 1)])
        self.assertEqual(sorted(range(-3, 4), key=natural), [0, 1, -1, 2, -2, 3, -3])
        self.assertEqual(natural(-HUGE), (HUGE, 1))

    def test_natural_order_of_texts(self):
        self.assertEqual(natural("ab"), (2, "ab"))
        self.assertEqual(sorted(["ba", "ab", "c", "b", "abc"], key=natural), ["b", "c", "ab", "ba", "abc"])

    def test_arguments_by_name(self):
        self.assertTrue(is_value(value=1, kind="number"))
        self.assertEqual(kind_of(value="a"), "text")
        self.assertEqual(natural(value=-1), (1, 1))


class NumbersTest(KeptCase):
    def test_stretches_are_the_longest_ascending(self):
        for given, told in [
            ([], []),
            ([(3, 3)], [(3, 3)]),
            ([(5, 9), (0, 2)], [(0, 2), (5, 9)]),
            ([(0, 2), (3, 4)], [(0, 4)]),
            ([(0, 2), (4, 4)], [(0, 2), (4, 4)]),
            ([(0, 9), (2, 3)], [(0, 9)]),
            ([(2, 5), (0, 3), (2, 5)], [(0, 5)]),
            ([(None, 3), (5, None)], [(None, 3), (5, None)]),
            ([(None, 3), (4, None)], [(None, None)]),
            ([(5, None), (None, 3), (None, 1), (8, 9)], [(None, 3), (5, None)]),
            ([(None, None), (1, 2)], [(None, None)]),
            ([(-HUGE, HUGE), (HUGE + 1, HUGE + 1)], [(-HUGE, HUGE + 1)]),
        ]:
            self.assertEqual(Numbers(given).stretches(), told)
            self.assertEqual(Numbers(tuple(given)), Numbers(told))

    def test_an_invalid_set_tells_the_first_wrong_element(self):
        for given in odd_values() + [1, "ab", {(1, 2)}, {1: 2}]:
            if not isinstance(given, (list, tuple)):
                self.assert_error(InvalidSet(-1), Numbers, given)
        for wrong in odd_values() + [1, [1, 2], (1,), (1, 2, 3), (2, 1), (True, 2), (1, True), (False, None),
                                     (None, "a"), ("a", None), ([], 1), (EqualToAll(), 3)]:
            self.assert_error(InvalidSet(0), Numbers, [wrong])
            self.assert_error(InvalidSet(2), Numbers, ((1, 2), (None, None), wrong, 7))

    def test_full_and_of(self):
        self.assertEqual(Numbers.full(), Numbers([(None, None)]))
        self.assertEqual(Numbers.of(3, 1, 2, 2, 7).stretches(), [(1, 3), (7, 7)])
        self.assertEqual(Numbers.of(), Numbers())
        for wrong in odd_values() + ["a"]:
            self.assert_error(InvalidSet(1), Numbers.of, 4, wrong, True)

    def test_properties(self):
        for given, size in [([], 0), ([(4, 4)], 1), ([(0, 9), (20, 21)], 12), ([(0, None)], None),
                            ([(None, 0)], None), ([(None, None)], None), ([(1, HUGE)], HUGE)]:
            values = Numbers(given)
            self.assertEqual((values.kind, values.size), ("number", size))
            self.assertIs(values.is_empty, size == 0)

    def test_least(self):
        for given, least in [([], None), ([(None, None)], 0), ([(-3, 5)], 0), ([(2, 9)], 2), ([(-9, -4)], -4),
                             ([(None, -2), (2, None)], 2), ([(None, -2), (3, None)], -2), ([(HUGE, None)], HUGE)]:
            self.assertEqual(Numbers(given).least(), least)

    def test_repr(self):
        self.assertEqual(repr(Numbers([(12, None), (0, 9)])), "Numbers([(0, 9), (12, None)])")
        self.assertEqual(repr(Numbers()), "Numbers([])")

    def test_what_is_passed_and_returned_is_free(self):
        given = [(0, 3)]
        values = Numbers(given)
        given.append((9, 9))
        values.stretches().append((7, 7))
        self.assertEqual(values.stretches(), [(0, 3)])
        self.assertEqual(given, [(0, 3), (9, 9)])


class TextsTest(KeptCase):
    def test_words_are_sorted_and_different(self):
        self.assertEqual(Texts(["c", "ab", "c"]).words(), ["ab", "c"])
        self.assertEqual(Texts(("c",), others=True).words(), ["c"])
        self.assertIs(Texts(["c"], others=True).others, True)
        self.assertIs(Texts(["c"]).others, False)
        self.assertEqual(Texts().words(), [])

    def test_an_invalid_set(self):
        for given in odd_values() + [1, "ab", {"a"}, {"a": "b"}]:
            if not isinstance(given, (list, tuple)):
                self.assert_error(InvalidSet(-1), Texts, given)
        for others in odd_values() + [0, 1, "a"]:
            if others is not True and others is not False:
                self.assert_error(InvalidSet(-1), Texts, [7], others=others)
        for wrong in odd_values() + [3, "abcdefghijklm", "a-b"]:
            self.assert_error(InvalidSet(1), Texts, ["a", wrong, 4])
            self.assert_error(InvalidSet(1), Texts.of, "a", wrong, 4)
        with self.assertRaises(TypeError):
            Texts([], True)

    def test_full_and_of(self):
        self.assertEqual(Texts.full(), Texts([], others=True))
        self.assertEqual(Texts.of("b", "a", "b"), Texts(["a", "b"]))
        self.assertEqual(Texts.of(), Texts())

    def test_properties(self):
        for values, size in [(Texts(), 0), (Texts(["a"]), 1), (Texts(["a", "b"]), 2), (Texts.full(), None),
                             (Texts(["a"], others=True), None)]:
            self.assertEqual((values.kind, values.size), ("text", size))
            self.assertIs(values.is_empty, size == 0)

    def test_least(self):
        self.assertEqual(Texts().least(), None)
        self.assertEqual(Texts(["ab", "c", "aaa"]).least(), "c")
        self.assertEqual(Texts.full().least(), "a")
        self.assertEqual(Texts(["b", "a", "d"], others=True).least(), "c")
        letters = list("abcdefghijklmnopqrstuvwxyz")
        self.assertEqual(Texts(letters, others=True).least(), "aa")
        self.assertEqual(Texts(letters + ["aa", "ab"], others=True).least(), "ac")
        twos = ["a" + letter for letter in letters]
        self.assertEqual(Texts(letters + twos, others=True).least(), "ba")

    def test_repr(self):
        self.assertEqual(repr(Texts(["c", "ab"], others=True)), "Texts(['ab', 'c'], others=True)")
        self.assertEqual(repr(Texts(["c", "ab"])), "Texts(['ab', 'c'], others=False)")

    def test_what_is_passed_and_returned_is_free(self):
        given = ["a"]
        values = Texts(given)
        given.append("b")
        values.words().append("c")
        self.assertEqual(values.words(), ["a"])


class BothTest(KeptCase):
    def test_a_set_has_only_values_of_its_kind(self):
        for value in odd_values() + ["a", "zz"]:
            self.assertIs(value in Numbers.full(), False)
        for value in odd_values() + [0, 1]:
            self.assertIs(value in Texts.full(), False)
        self.assertIs(True in Numbers.of(1), False)
        self.assertIs(False in Numbers.of(0), False)
        self.assertIs(1 in Numbers.of(1), True)
        self.assertIs("b" in Texts.of("b"), True)
        self.assertIs("b" in Texts(["b"], others=True), False)
        self.assertIs("abcdefghijklm" in Texts.full(), False)

    def test_equality(self):
        self.assertEqual(Numbers.of(1, 2), Numbers([(1, 2)]))
        self.assertNotEqual(Numbers(), Texts())
        self.assertNotEqual(Numbers.full(), Texts.full())
        self.assertNotEqual(Texts(["a"]), Texts(["a"], others=True))
        for value in odd_values() + [[], [(1, 2)], (), mock.ANY]:
            if not isinstance(value, ValueSet):
                self.assertFalse(Numbers([(1, 2)]) == value)
                self.assertFalse(Texts(["a"]) == value)
                self.assertTrue(Numbers([(1, 2)]) != value)

    def test_unlike_sets(self):
        for call in [Numbers.united, Numbers.shared, Numbers.without]:
            for wrong in odd_values() + [Texts(), 1, NumberMap.same()]:
                if not isinstance(wrong, Numbers):
                    self.assert_error(Unlike(), call, Numbers(), wrong)
            self.assert_error(Unlike(), call, Texts(), Numbers())
            self.assert_error(Unlike(), call, Texts(), ["a"])

    def test_ordinary_unions(self):
        one, other = Numbers([(0, 5), (9, None)]), Numbers([(4, 8)])
        self.assertEqual(one.united(other), Numbers([(0, None)]))
        self.assertEqual(one.shared(other=other), Numbers.of(4, 5))
        self.assertEqual(one.without(other), Numbers([(0, 3), (9, None)]))
        self.assertEqual(other.without(one), Numbers([(6, 8)]))
        this, that = Texts(["a", "b"], others=True), Texts(["b", "c"])
        self.assertEqual(this.united(that), Texts(["a"], others=True))
        self.assertEqual(this.shared(that), Texts(["c"]))
        self.assertEqual(this.without(that), Texts(["a", "b", "c"], others=True))
        self.assertEqual(that.without(this), Texts(["b"]))
        self.assertEqual(this.united(Texts(["b", "d"], others=True)), Texts(["b"], others=True))

    def test_drawn_sets_against_their_values(self):
        draw = random.Random(1)
        for drawn, values in [(drawn_numbers, some_values("number")), (drawn_texts, some_values("text"))] * 300:
            one, other = drawn(draw), drawn(draw)
            for value in values:
                first, second = value in one, value in other
                self.assertIs(value in one.united(other), first or second)
                self.assertIs(value in one.shared(other), first and second)
                self.assertIs(value in one.without(other), first and not second)
            self.assertEqual(one.shared(other), other.shared(one))
            self.assertEqual(one.without(other).united(one.shared(other)), one)
            held = [value for value in values if value in one]
            self.assertEqual(one.least(), min(held, key=natural, default=None))
            if one.size is not None:
                self.assertEqual(one.size, len(held))

    def test_a_set_never_changes(self):
        one, other = Numbers.of(1), Numbers.of(2)
        one.united(other), one.without(other), one.shared(other)
        self.assertEqual([one, other], [Numbers.of(1), Numbers.of(2)])
        with self.assertRaises(AttributeError):
            one.kind = "text"


if __name__ == "__main__":
    unittest.main()

"""Tests of keptedits.lets: sets of programs that are let (point 33)."""

import random
import unittest
from itertools import combinations

from keptedits.errors import InvalidRow, TooMany, UnknownProgram
from keptedits.lets import Admission
from keptedits.maps import NumberMap
from keptedits.programs import Own, Program, Write
from keptedits.reached import Beginnings
from keptedits.sets import Numbers
from keptedits.wishes import Wishes
from keptedits.worlds import World
from tests.brute import all_own, drawn_beginnings
from tests.helpers import KeptCase, anew, drawn_numbers, drawn_texts, drawn_world, odd_values
from tests.test_graphs import turning

SAME = NumberMap.same()
LOW = NumberMap.cut(0, 9)


def cutter(name, mapping):
    """Return a program that writes what it reads of "a", taken by a map."""
    own = Own("number", [("a", SAME)], default=3, settable=Numbers([(0, 20)]), removable=True)
    return Program(name, {"x": own}, {"a": Write("x", mapping)})


def drawn_wishes(draw, world, most=6):
    """Return drawn wishes of a world."""
    found = []
    owns = all_own(world)
    while owns and len(found) < most and draw.random() < 0.9:
        kind = draw.choice(["safe", "safe here", "seen", "seen here", "kept", "kept here", "sure", "within", "alike", "as"])
        one, other = draw.choice(owns), draw.choice(owns)
        here, there = [world.program(name).own_field(own) for name, own in (one, other)]
        if kind in ("safe", "safe here", "sure", "as"):
            found.append((kind,) + one)
        elif kind == "within":
            found.append((kind,) + one + (drawn_numbers(draw) if here.kind == "number" else drawn_texts(draw),))
        elif (kind == "alike" and here.kind == there.kind) or (kind[:4] == "seen" and not here.settable.is_empty) or (
                kind[:4] == "kept" and here.removable):
            found.append((kind,) + one + other)
    return found


def named(wish):
    """Return the programs that a wish names."""
    return [wish[1]] + ([wish[3]] if len(wish) == 5 else [])


def own_first_fault(wishes, names):
    """Return the first fault of a set, by an own look at the world with only these programs."""
    new = [name for name in wishes.beginnings.new if name in names]
    beginnings = Beginnings(new=new, documents=wishes.beginnings.documents(), anything=wishes.beginnings.anything)
    asked = [place for place, wish in enumerate(wishes.all_wishes()) if set(named(wish)) <= set(names)]
    smaller = Wishes(anew(wishes.world.only(*names)), [wishes.all_wishes()[place] for place in asked], beginnings)
    found = smaller.first_fault()
    return None if found is None else (asked[found[0]], found[1])


class ExampleTest(KeptCase):
    def setUp(self):
        self.world = World({"a": "number", "b": "number"}, [cutter("wide", SAME), cutter("odd", NumberMap([(None, None, 7)])),
                                                            cutter("low", LOW), Program("stay")])
        told = [("kept", "wide", "x", "wide", "x"), ("safe", "wide", "x"), ("sure", "wide", "x"), ("safe", "low", "x")]
        self.wishes = Wishes(self.world, told, Beginnings())
        self.made = Admission(self.wishes)

    def test_sets_that_are_let(self):
        # The removal has an echo: the own field has a default, which the pass behind it writes.
        self.assertIs(Admission(wishes=self.wishes).wishes, self.wishes)
        self.assertIs(self.made.is_let([]), True)
        self.assertIs(self.made.is_let(names=["stay", "odd"]), True)
        wishes = Wishes(self.world, [("safe", "wide", "x"), ("safe", "low", "x")], Beginnings())
        made = Admission(wishes)
        self.assertEqual([made.is_let(names) for names in (["wide", "stay"], ["wide", "low"], ("odd", "odd"), ["low"])],
                         [True, False, True, False])
        self.assertEqual(made.bad_sets(), [(("low",), 1, (["low"], {"a": -1})), (("odd", "wide"), 0, (["odd"], {}))])
        self.assertEqual(made.greatest_sets(), [("odd", "stay"), ("stay", "wide")])

    def test_the_position_is_that_among_all_wishes(self):
        found = [(names, position) for names, position, _ in self.made.bad_sets()]
        self.assertEqual(found, [(("low",), 3), (("odd", "wide"), 1)])

    def test_admits(self):
        self.assertIsNone(self.made.admits(names=["stay"], name="wide"))
        self.assertIsNone(self.made.admits((), "odd"))
        self.assertEqual(self.made.admits(["wide", "stay", "wide"], "odd"), ("odd", "wide"))
        self.assertEqual(self.made.admits(["wide", "odd"], "low"), ("low",))
        self.assertEqual(self.made.admits(["wide", "odd"], "wide"), ("odd", "wide"))

    def test_all_programs_let(self):
        made = Admission(Wishes(self.world, [], Beginnings()))
        self.assertEqual((made.bad_sets(), made.greatest_sets()), ([], [("low", "odd", "stay", "wide")]))
        empty = Admission(Wishes(World({"a": "number"}), [], Beginnings()))
        self.assertEqual((empty.bad_sets(), empty.greatest_sets(), empty.is_let(())), ([], [()], True))

    def test_new_by_other_programs_is_left_out(self):
        some = Admission(Wishes(self.world, [("safe here", "wide", "x"), ("within", "wide", "x", Numbers([(0, 6)]))],
                                Beginnings(new=["odd"])))
        self.assertEqual((some.is_let(["wide"]), some.is_let(["wide", "odd"])), (True, False))
        given = Beginnings(new=["odd"], documents=[{"a": 7}])
        made = Admission(Wishes(self.world, [("within", "wide", "x", Numbers([(0, 6)]))], given))
        self.assertEqual(made.bad_sets(), [(("wide",), 0, (("document", 0), []))])

    def test_the_world_itself_is_the_elder_one(self):
        made = Admission(Wishes(self.world, [("as", "wide", "x"), ("as", "low", "x")], Beginnings()))
        self.assertEqual(made.bad_sets(), [])

    def test_wrong_names(self):
        for wrong in odd_values() + ["wide", 1, {"wide": 1}]:
            if not isinstance(wrong, (list, tuple)):
                self.assert_error(InvalidRow(-1), self.made.is_let, wrong)
                self.assert_error(InvalidRow(-1), self.made.admits, wrong, "gone")
            self.assert_error(InvalidRow(1), self.made.is_let, ["low", wrong] if wrong != "wide" else ["low", "Wide"])
            if wrong != "wide":
                self.assert_error(UnknownProgram(wrong), self.made.admits, ["low"], wrong)
        self.assert_error(InvalidRow(0), self.made.admits, ["gone", 1], "gone")

    def test_results_are_new(self):
        wanted = self.made.bad_sets()
        told = self.made.bad_sets()
        told[0][2][0].append("x")
        told[0][2][1].clear()
        told.clear()
        self.made.greatest_sets().clear()
        self.assertEqual(self.made.bad_sets(), wanted)
        self.assertEqual(len(self.made.greatest_sets()), 2)

    def test_too_many_lists(self):
        world = turning(8, 9, 25, 7)
        made = Admission(Wishes(world, [("safe", "turn", "x")], Beginnings()))
        for call in (made.bad_sets, made.greatest_sets):
            self.assert_error(TooMany("lists", 3000), call)
        self.assert_error(TooMany("lists", 3000), made.is_let, ["turn"])
        self.assert_error(TooMany("lists", 3000), made.admits, [], "turn")
        self.assertIs(made.is_let(["stay"]), True)


class DrawnTest(KeptCase):
    def test_all_sets_of_drawn_worlds(self):
        let = bad = 0
        for seed in range(200):
            draw = random.Random(seed)
            world = drawn_world(draw)
            wishes = Wishes(world, drawn_wishes(draw, world), drawn_beginnings(draw, world))
            made = Admission(wishes)
            parts = [part for size in range(len(world) + 1) for part in combinations(sorted(world.names()), size)]
            faults = {part: own_first_fault(wishes, part) for part in parts}
            for part in parts:
                self.assertIs(made.is_let(draw.sample(part, len(part))), faults[part] is None)
            wanted = [(part,) + faults[part] for part in parts if faults[part] is not None
                      and all(faults[less] is None for less in parts if set(less) < set(part))]
            self.assertEqual([one[:2] for one in made.bad_sets()], [one[:2] for one in wanted])
            for one, other in zip(made.bad_sets(), wanted):
                if wishes.all_wishes()[one[1]][0] not in ("sure", "within", "alike"):
                    self.assertEqual(one, other)
            free = [part for part in parts if faults[part] is None]
            self.assertEqual(made.greatest_sets(), [part for part in free if not any(set(part) < set(more) for more in free)])
            for part in parts:
                for name in world.names():
                    found = [one[0] for one in wanted if set(one[0]) <= set(part) | {name}]
                    self.assertEqual(made.admits(list(part), name), found[0] if found else None)
            let += len(free)
            bad += len(wanted)
        self.assertGreater(min(let, bad), 80)


if __name__ == "__main__":
    unittest.main()

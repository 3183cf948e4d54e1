"""Tests of keptedits.offers: offers, choices, their faults and the least adapters (point 32)."""

import random
import unittest
from itertools import combinations

from keptedits.errors import InvalidChoice, InvalidOffer, TooMany
from keptedits.maps import NumberMap, TextMap
from keptedits.offers import Adapters, applied, fits
from keptedits.programs import Own, Program, Write
from keptedits.reached import Beginnings
from keptedits.sets import Numbers
from keptedits.wishes import Wishes
from keptedits.worlds import World
from tests.brute import all_own, drawn_beginnings
from tests.helpers import EqualToAll, KeptCase, anew, drawn_map, drawn_world, odd_values
from tests.test_graphs import turning

SAME = NumberMap.same()
LOW = NumberMap.cut(0, 9)
TEXT = TextMap.same()


class ExampleCase(KeptCase):
    def setUp(self):
        own = {"x": Own("number", [("a", SAME)], default=3, settable=Numbers([(0, 9)]), removable=True), "n": Own("text")}
        self.first = Program("p", own, {"a": Write("x", SAME), "b": Write("x", LOW, leaves=True), "d": None}, keeps=False)
        self.other = Program("q", {"y": Own("number", [("b", LOW)])})
        self.world = World({"a": "number", "b": "number", "c": "number", "d": "number", "w": "text"}, [self.first, self.other])
        self.offers = [("keep", "p"), ("read", "p", "x", "b", LOW, "first"), ("read", "p", "x", "c", LOW, "last"),
                       ("write", "p", "x", "c", LOW), ("clear", "p", "c"), ("leave", "p", "a"), ("no default", "p", "x"),
                       ("write", "p", "n", "w", TEXT)]

    def made(self, wishes=(), beginnings=None, offers=None):
        """Return the adapters of wishes of the example."""
        told = Wishes(self.world, list(wishes), Beginnings() if beginnings is None else beginnings)
        return Adapters(told, self.offers if offers is None else offers)


class FitsTest(ExampleCase):
    def test_offers_that_fit(self):
        for offer in self.offers:
            self.assertIs(fits(self.world, offer), True)
        self.assertIs(fits(world=self.world, offer=("read", "q", "y", "a", SAME, "last")), True)

    def test_offers_that_do_not_fit(self):
        for offer in [("keep", "q"), ("read", "p", "x", "a", LOW, "first"), ("read", "p", "x", "w", LOW, "first"),
                      ("read", "p", "x", "b", TEXT, "first"), ("read", "p", "n", "w", SAME, "last"), ("write", "p", "x", "a", LOW),
                      ("write", "p", "x", "d", LOW), ("write", "p", "x", "w", TEXT), ("write", "p", "x", "c", TEXT),
                      ("write", "p", "n", "c", SAME), ("clear", "p", "a"), ("clear", "p", "d"), ("leave", "p", "b"),
                      ("leave", "p", "c"), ("leave", "p", "d"), ("no default", "p", "n"), ("no default", "q", "y")]:
            self.assertIs(fits(self.world, offer), False)
            self.assert_error(InvalidOffer(1), applied, self.world, [self.offers[0], offer, 7])
            # Whether they fit is not looked at where offers are kept.
            self.assertEqual(Adapters(Wishes(self.world, [], Beginnings()), [offer]).offers(), [offer])

    def test_values_that_are_no_offers(self):
        wrong_offers = odd_values() + [
            1, "keep", ("keep",), ["keep", "p"], ("keep", "p", 1), ("keep", "gone"), ("Keep", "p"), ("read", "p", "x", "b", LOW),
            ("read", "p", "x", "b", LOW, "middle"), ("read", "p", "x", "b", LOW, "first", 1), ("read", "p", "y", "b", LOW, "first"),
            ("read", "p", "x", "gone", LOW, "first"), ("read", "p", "x", "b", None, "first"), ("read", "p", "x", "b", LOW, True),
            ("write", "p", "x", "c"), ("write", "p", "x", "c", LOW, "last"), ("write", "p", "x", "gone", LOW), ("clear", "p"),
            ("write", "p", "x", "c", EqualToAll()), ("clear", "p", "gone"), ("clear", "p", "c", 1), ("leave", "p", "gone"),
            ("leave", "p"), ("leave", "q"), ("no default", "p"), ("no default", "p", "y"), ("no default", "p", "x", 1),
            ("read", "p", "x", "b", LOW, EqualToAll()), ("", "p")]
        for wrong in odd_values() + [1, "gone"]:
            wrong_offers += [(wrong, "p"), ("keep", wrong), ("clear", "p", wrong), ("read", "p", wrong, "b", LOW, "first"),
                             ("read", "p", "x", wrong, LOW, "first"), ("read", "p", "x", "b", LOW, wrong), ("leave", wrong, "a")]
            if not isinstance(wrong, TextMap):
                wrong_offers += [("write", "p", "x", "c", wrong)]
        for wrong in wrong_offers:
            self.assertIs(fits(self.world, wrong), False)
            self.assert_error(InvalidOffer(1), applied, self.world, [self.offers[0], wrong, 7])
            self.assert_error(InvalidOffer(1), self.made, offers=[("keep", "q"), wrong, 7])
        for wrong in odd_values() + [1, "ab", {"a": 1}]:
            if not isinstance(wrong, (list, tuple)):
                self.assert_error(InvalidOffer(-1), applied, self.world, wrong)
                self.assert_error(InvalidOffer(-1), self.made, offers=wrong if wrong is not None else 7)
        self.assert_error(InvalidOffer(-1), self.made, offers=[("keep", "p")] * 9)


class AppliedTest(ExampleCase):
    def program(self, *offers):
        """Return the program p behind some offers."""
        found = applied(self.world, list(offers))
        self.assertEqual((found.fields(), found.names()), (self.world.fields(), ["p", "q"]))
        self.assertEqual(found.program("q"), self.other)
        return found.program("p")

    def test_each_offer(self):
        own, writes = self.first.own_fields(), self.first.writes()
        more = {"settable": Numbers([(0, 9)]), "removable": True}
        first = Own("number", [("b", LOW), ("a", SAME)], default=3, **more)
        last = Own("number", [("a", SAME), ("c", LOW)], default=3, **more)
        without = Own("number", [("a", SAME)], **more)
        wanted = [Program("p", own, writes, keeps=True), Program("p", own | {"x": first}, writes, keeps=False),
                  Program("p", own | {"x": last}, writes, keeps=False),
                  Program("p", own, writes | {"c": Write("x", LOW)}, keeps=False),
                  Program("p", own, writes | {"c": None}, keeps=False),
                  Program("p", own, writes | {"a": Write("x", SAME, leaves=True)}, keeps=False),
                  Program("p", own | {"x": without}, writes, keeps=False),
                  Program("p", own, writes | {"w": Write("n", TEXT)}, keeps=False)]
        for offer, told in zip(self.offers, wanted):
            self.assertEqual(self.program(offer), told)

    def test_several_offers(self):
        found = self.program(("write", "p", "x", "c", LOW), ("leave", "p", "c"), ("keep", "p"), ("no default", "p", "x"))
        self.assertEqual(found.writes()["c"], Write("x", LOW, leaves=True))
        self.assertEqual((found.keeps, found.own_field("x").default), (True, None))
        self.assertEqual(applied(world=self.world, offers=()), self.world)
        self.assert_error(InvalidOffer(2), applied, self.world, [("keep", "p"), ("clear", "p", "c"), ("write", "p", "x", "c", LOW)])
        self.assert_error(InvalidOffer(1), applied, self.world, [("keep", "p"), ("keep", "p")])


class AdaptersTest(ExampleCase):
    def setUp(self):
        super().setUp()
        # The reader is safe only if the old program keeps what it does not know, and no longer writes a default.
        old = Program("old", {"x": Own("number", [("a", SAME)], default=0)}, {"a": Write("x", SAME)}, keeps=False)
        new = Program("new", {"y": Own("number", [("b", SAME), ("a", SAME)])}, {"b": Write("y", SAME)})
        self.world = World({"a": "number", "b": "number"}, [old, new])
        self.offers = [("clear", "new", "a"), ("keep", "old"), ("read", "old", "x", "b", SAME, "first"),
                       ("no default", "old", "x"), ("write", "old", "x", "b", SAME)]

    def test_properties(self):
        told = Wishes(self.world, [("safe", "new", "y")], Beginnings())
        made = Adapters(wishes=told, offers=self.offers)
        self.assertEqual(made.wishes, told)
        self.assertEqual(made.offers(), self.offers)
        made.offers().clear()
        self.offers.pop()
        self.assertEqual(len(made.offers()), 5)

    def test_least_adapters(self):
        made = self.made([("safe", "new", "y")])
        self.assertEqual(made.least(), [(1, 3), (2, 3)])
        self.assertEqual(made.chosen, (1, 3))
        self.assertEqual([choice for choice, _ in made.smaller()], [(), (0,), (1,), (2,), (3,), (4,)])
        self.assertEqual(dict(made.smaller())[()], ("wish", 0, (["old"], {})))
        self.assertEqual(dict(made.smaller())[(3,)], ("wish", 0, (["old"], {"b": 0})))
        for choice, fault in made.smaller():
            self.assertEqual(made.fault(choice=choice), fault)
        self.assertIs(made.fault((1, 3)), None)

    def test_a_greater_choice_may_have_a_fault(self):
        made = self.made([("safe", "new", "y"), ("as", "old", "x")], offers=[("keep", "old"), ("no default", "old", "x")])
        self.assertEqual(made.least(), [])
        self.assertIs(made.chosen, None)
        self.assertEqual(list(made.smaller()), [((), ("wish", 0, (["old"], {}))), ((0,), ("wish", 0, (["old"], {}))),
                                                ((1,), ("wish", 0, (["old"], {"b": 0}))), ((0, 1), ("wish", 1, {}))])
        made = self.made([("as", "old", "x")], offers=[("no default", "old", "x"), ("keep", "old")])
        self.assertEqual((made.least(), made.chosen, list(made.smaller())), ([()], (), []))
        self.assertEqual([made.fault(choice) for choice in [(0,), (1,), (0, 1)]], [("wish", 0, {}), None, ("wish", 0, {})])

    def test_offers_that_do_not_fit_then(self):
        made = self.made([], offers=[("keep", "new"), ("keep", "old"), ("clear", "old", "b"), ("write", "old", "x", "b", SAME)])
        self.assertEqual(made.least(), [()])
        for choice, told in [((0,), ("offer", 0)), ((1,), None), ((2, 3), ("offer", 3)), ((1, 3), None), ((0, 1, 2, 3), ("offer", 0)),
                             ((1, 2, 3), ("offer", 3))]:
            self.assertEqual(made.fault(choice), told)

    def test_several_least_adapters(self):
        made = self.made([("sure", "new", "y")], Beginnings(documents=[{}]),
                         [("read", "new", "y", "b", SAME, "last"), ("keep", "old"), ("keep", "old")])
        self.assertEqual(made.least(), [])
        self.assertEqual(len(list(made.smaller())), 8)
        drop = Program("drop", {}, {"a": None}, keeps=False)
        self.world = World({"a": "number", "b": "number"}, [drop, Program("r", {"y": Own("number", [("b", SAME)])})])
        made = self.made([("safe", "r", "y")], offers=[("keep", "drop"), ("clear", "drop", "b"), ("keep", "drop")])
        self.assertEqual((made.least(), made.chosen), ([(0,), (2,)], (0,)))
        self.assertEqual(list(made.smaller()), [((), ("wish", 0, (["drop"], {"b": 0})))])

    def test_invalid_choices(self):
        made = self.made([])
        for wrong in odd_values() + [1, [0], [], (1, 0), (0, 0), (5,), (-1,), (0, 5), (True,), (0, True), ("a",), (0, "a"), (None,),
                                     (EqualToAll(),), {0: 1}, ((0,),)]:
            if wrong != () or not isinstance(wrong, tuple):
                self.assert_error(InvalidChoice(wrong), made.fault, wrong)
        self.assertIs(made.fault(()), None)

    def test_what_is_returned_is_free(self):
        made = self.made([("safe", "new", "y")])
        made.least().clear()
        for _, fault in made.smaller():
            fault[2][0].append("x")
            fault[2][1]["a"] = 9
        made.fault((0,))[2][0].clear()
        self.assertEqual(made.fault(()), ("wish", 0, (["old"], {})))
        self.assertEqual((made.least(), dict(made.smaller())[()]), ([(1, 3), (2, 3)], ("wish", 0, (["old"], {}))))

    def test_too_many_lists(self):
        told = Wishes(turning(13, 16, 17), [("safe", "turn", "x")], Beginnings())
        self.assert_error(TooMany("lists", 3000), Adapters, told, [])


def drawn_offer(draw, world):
    """Return a drawn offer, which need not fit."""
    program = draw.choice(world.programs())
    fields = list(world.fields())
    kind = draw.choice(["keep", "read", "write", "clear", "leave", "no default"])
    own_fields = list(program.own_fields())
    if kind == "keep":
        return (kind, program.name)
    if kind in ("clear", "leave") or not own_fields:
        return ("clear" if kind != "leave" else kind, program.name, draw.choice(fields))
    own = draw.choice(own_fields)
    if kind == "no default":
        return (kind, program.name, own)
    field = draw.choice(fields)
    offer = (kind, program.name, own, field, drawn_map(draw, world.kind_of_field(field)))
    return offer + (draw.choice(["first", "last"]),) if kind == "read" else offer


class DrawnTest(KeptCase):
    def drawn_wish(self, draw, world):
        """Return a drawn wish."""
        name, own = draw.choice(all_own(world))
        other = draw.choice(all_own(world))
        own_field = world.program(name).own_field(own)
        kinds = ["safe", "safe here", "sure", "as"]
        if not own_field.settable.is_empty:
            kinds += ["seen", "seen here"]
        if own_field.removable:
            kinds += ["kept", "kept here"]
        kind = draw.choice(kinds)
        return (kind, name, own) + (other if kind.startswith(("seen", "kept")) else ())

    def test_least_adapters_beside_all_choices(self):
        draw = random.Random(90)
        sizes = []
        for _ in range(1200):
            world = drawn_world(draw)
            if not all_own(world):
                continue
            wishes = Wishes(world, [self.drawn_wish(draw, world) for _ in range(draw.randint(1, 2))], drawn_beginnings(draw, world))
            offers = [drawn_offer(draw, world) for _ in range(draw.randint(1, 5))]
            made = Adapters(wishes, offers)
            faults = {}
            for size in range(len(offers) + 1):
                for choice in combinations(range(len(offers)), size):
                    faults[choice] = self.plain_fault(wishes, offers, choice)
                    self.assertEqual(made.fault(choice), faults[choice])
            good = [choice for choice, fault in faults.items() if fault is None]
            least = [choice for choice in good if len(choice) == len(good[0])]
            self.assertEqual((made.least(), made.chosen), (least, least[0] if least else None))
            wanted = [(choice, fault) for choice, fault in faults.items() if not least or len(choice) < len(least[0])]
            self.assertEqual(list(made.smaller()), wanted)
            sizes.append(len(least[0]) if least else None)
        self.assertLessEqual({None, 0, 1, 2}, set(sizes))

    def plain_fault(self, wishes, offers, choice):
        """Return the fault of a choice by the words of point 32."""
        for many in range(len(choice)):
            world = anew(applied(anew(wishes.world), [offers[position] for position in choice[:many]]))
            if not fits(world, offers[choice[many]]):
                return ("offer", choice[many])
        plain = Wishes(anew(wishes.world), wishes.all_wishes(), wishes.beginnings)
        found = plain.first_fault(anew(applied(plain.world, [offers[position] for position in choice])))
        return None if found is None else ("wish",) + found


if __name__ == "__main__":
    unittest.main()

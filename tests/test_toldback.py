"""Tests of keptedits.toldback: pasts, verdicts, drifts and documents joined without logs (points 40 to 42)."""

import heapq
import random
import unittest

from keptedits.errors import (InvalidChoice, InvalidCopies, InvalidDocument, InvalidStep, TooMany, UnknownOwn,
                              UnknownProgram)
from keptedits.maps import NumberMap, TextMap
from keptedits.passes import passed
from keptedits.programs import Own, Program, Write
from keptedits.sets import Numbers, Texts
from keptedits.texts import parse_world
from keptedits.toldback import drifts, is_by_hand, least_costs, past, told_joined, told_open, verdict
from keptedits.worlds import World
from tests import brute_copies
from tests.brute import all_edits, all_own, behind_row, rows_up_to, small_world, told
from tests.helpers import KeptCase, LikeName, drawn_document, drawn_value, drawn_world, odd_values
from tests.test_graphs import turning

SAME = NumberMap.same()
LOW = NumberMap.cut(0, 9)
FULL = Numbers.full()
VERDICTS = {(False, False): "none", (True, False): "needed", (False, True): "idle"}


def example():
    """Return a world of an old and a new program."""
    old = Program("old", {"size": Own("number", [("len", SAME)], default=5, settable=Numbers([(0, 200)]), removable=True)},
                  {"len": Write("size", NumberMap.cut(0, 99))}, keeps=False)
    new = Program("new", {"size": Own("number", [("size", SAME), ("len", SAME)], settable=FULL, removable=True),
                          "flag": Own("text", [("flag", TextMap.same())], settable=Texts(["on", "off"]))},
                  {"size": Write("size", SAME), "len": None, "flag": Write("flag", TextMap.same())})
    return World({"len": "number", "size": "number", "flag": "text"}, [old, new])


def states_of(world, base, most=1500):
    """Return the dict from all states (document, fields with a hand) to their least cost; None if there are too many."""
    edits = {name: all_edits(world, name) for name in world.names()}
    waiting, found, serial = [(0, 0, brute_copies.root_copy(world, base))], {}, 0
    while waiting:
        cost, _, copy = heapq.heappop(waiting)
        hands = tuple(sorted(field for field, origin in copy[1].items() if origin not in (None, ("root",), ("made",))))
        if (told(copy[0]), hands) in found:
            continue
        found[told(copy[0]), hands] = (cost, copy)
        if len(found) > most:
            return None
        for name in world.names():
            for edit in edits[name]:
                serial += 1
                behind = brute_copies.stepped(world, copy, name, edit, {own: 1 for own in edit})
                heapq.heappush(waiting, (cost + len(edit), serial, behind))
    return list(found.values())


def own_costs(world, states, copy, name, own):
    """Return the least costs of pasts by a hand and of others by an own look at all states."""
    fields = [field for field, _ in world.program(name).own_field(own).sources if field in copy]
    found = {True: [], False: []}
    for cost, state in states:
        if sorted(state[0]) == sorted(copy) and (not fields or state[0][fields[0]] == copy[fields[0]]):
            origin = brute_copies.shows(world, state, name, own)[1]
            found[origin is not None and origin[0] == "hand"].append(cost)
    return min(found[True], default=None), min(found[False], default=None)


def verdict_of(costs):
    """Return the verdict of least costs."""
    one, other = costs
    if one is None or other is None:
        return VERDICTS[one is not None, other is not None]
    return "hand" if one < other else "idle" if one > other else "open"


class VerdictTest(KeptCase):
    def setUp(self):
        self.world = example()

    def test_verdicts(self):
        ask = {"world": self.world, "base": {"len": 7}, "name": "new", "own": "size"}
        self.assertEqual(verdict(copy={"len": 7}, **ask), "idle")
        self.assertEqual(least_costs(copy={"len": 7}, **ask), (1, 0))
        self.assertEqual((verdict(copy={"len": 8}, **ask), least_costs(copy={"len": 8}, **ask)), ("needed", (1, None)))
        self.assertEqual((verdict(copy={"len": 120}, **ask), least_costs(copy={"len": 120}, **ask)), ("none", (None, None)))
        # The old program forgets "size", and its default is no hand.
        self.assertEqual(least_costs(self.world, {"size": 7}, {"len": 5}, "new", "size"), (1, 0))
        self.assertEqual(least_costs(self.world, {"size": 7}, {"size": 5}, "new", "size"), (1, 0))
        self.assertEqual(verdict(self.world, {"size": 7}, {}, "new", "size"), "needed")

    def test_open_verdicts(self):
        # The presence of "c" needs an edit, and either edit sets it; only one of them sets "a", too.
        own = {"x": Own("number", [("a", SAME)], settable=FULL), "y": Own("number", [("c", SAME)], settable=FULL)}
        one = Program("one", own, {"a": Write("x", LOW), "c": Write("x", SAME)})
        other = Program("other", {"y": Own("number", [("c", SAME)], settable=FULL)}, {"c": Write("y", SAME)})
        drop = Program("drop", {}, {"c": None})
        world = World({"a": "number", "c": "number"}, [one, other, drop])
        self.assertEqual(least_costs(world, {"a": 3}, {"a": 3, "c": 1}, "one", "x"), (1, 0))
        world = World({"a": "number", "c": "number"}, [Program("one", {"x": own["x"]}, {"a": Write("x", LOW)}),
                                                       Program("both", own, {"a": Write("y", LOW), "c": Write("y", SAME)}), other, drop])
        self.assertEqual(verdict(world, {"a": 3}, {"a": 3, "c": 1}, "one", "x"), "open")
        self.assertEqual(least_costs(world, {"a": 3}, {"a": 4, "c": 1}, "one", "x"), (1, None))

    def test_verdict_hand(self):
        # One edit makes "c" and "d" and gives "a", too; without it two are needed.
        own = {"x": Own("number", settable=Numbers([(0, 5)])), "g": Own("number", [("a", SAME)])}
        one = Program("one", own, {field: Write("x", SAME, leaves=True) for field in "acd"})
        two = Program("two", {"u": Own("number", [("c", SAME)], settable=FULL), "v": Own("number", [("d", SAME)], settable=FULL)},
                      {"c": Write("u", SAME), "d": Write("v", SAME)})
        world = World({"a": "number", "c": "number", "d": "number"}, [one, two, Program("drop", {}, {"c": None, "d": None})])
        ask = {"world": world, "base": {"a": 5}, "copy": {"a": 5, "c": 8, "d": 9}, "name": "one", "own": "g"}
        self.assertEqual((verdict(**ask), least_costs(**ask)), ("hand", (1, 2)))
        self.assertEqual(past(by_hand=True, **ask), [("one", {"x": 5})])
        self.assertEqual([sorted(edit) for _, edit in past(by_hand=False, **ask)], [["u", "v"]])
        self.assertEqual(least_costs(world, {"a": 6}, {"a": 6, "c": 8, "d": 9}, "one", "g"), (None, 2))
        self.assertEqual(told_joined(world, "two", {"a": 5}, [ask["copy"], {"a": 5}]), {"a": 5, "c": 8, "d": 9})

    def test_values_of_other_fields_are_not_asked_for(self):
        self.assertEqual(verdict(self.world, {"size": 7, "flag": "a"}, {"size": 7, "flag": "z"}, "new", "size"), "idle")
        self.assertEqual(verdict(self.world, {"size": 7, "flag": "a"}, {"size": 7, "flag": "z"}, "new", "flag"), "none")
        self.assertEqual(verdict(self.world, {"size": 7, "flag": "a"}, {"size": 7}, "new", "flag"), "idle")

    def test_past(self):
        self.assertEqual(past(self.world, {"len": 7}, {"len": 7}, "new", "size", False), [])
        found = past(world=self.world, base={"len": 7}, copy={"len": 7}, name="new", own="size", by_hand=True)
        self.assertEqual(sum(len(edit) for _, edit in found), 1)
        self.assertIs(is_by_hand(self.world, {"len": 7}, {"len": 7}, "new", "size", found), True)
        self.assertIsNone(past(self.world, {"len": 7}, {"len": 8}, "new", "size", False))
        self.assertIsNone(past(self.world, {"len": 7}, {"len": 120}, "new", "size", True))

    def test_long_pasts(self):
        # Each pass takes the value one further; the edit of "set" can give it only at the beginning.
        ring = TextMap({chr(97 + at): chr(97 + (at + 1) % 20) for at in range(20)})
        turn = Program("turn", {"x": Own("text", [("a", TextMap.same())])}, {"a": Write("x", ring)})
        start = Program("set", {"x": Own("text", [("a", TextMap.same())], settable=Texts(["a", "z"]))}, {"a": Write("x", TextMap.same())})
        world = World({"a": "text"}, [turn, start])
        self.assertEqual(past(world, {"a": "c"}, {"a": "b"}, "turn", "x", False), [("turn", {})] * 19)
        found = past(world, {"a": "y"}, {"a": "t"}, "turn", "x", True)
        self.assertEqual((len(found), least_costs(world, {"a": "y"}, {"a": "t"}, "turn", "x")), (20, (1, None)))

    def test_is_by_hand(self):
        ask = {"world": self.world, "base": {"len": 7}, "copy": {"len": 9}, "name": "new", "own": "size"}
        self.assertIs(is_by_hand(steps=[("old", {"size": 9})], **ask), True)
        self.assertIs(is_by_hand(steps=(("old", {"size": 9}), ("old", {})), **ask), True)
        self.assertIsNone(is_by_hand(steps=[("old", {"size": 8})], **ask))
        self.assertIsNone(is_by_hand(steps=[("old", {"size": 9}), ("new", {})], **ask))
        # Given what is read, it is edited all the same; without edits nothing is.
        again = {"world": self.world, "base": {"len": 7}, "copy": {"len": 7}, "name": "new", "own": "size"}
        self.assertIs(is_by_hand(steps=[("old", {"size": 7})], **again), True)
        self.assertIs(is_by_hand(steps=[("old", {})], **again), False)
        self.assertIs(is_by_hand(steps=[], **again), False)

    def test_wrong_arguments(self):
        calls = [lambda *told: verdict(*told), lambda *told: least_costs(*told), lambda *told: past(*told, True),
                 lambda *told: is_by_hand(*told, 7)]
        for call in calls:
            for wrong in odd_values() + ["gone", 1]:
                if not isinstance(wrong, dict):
                    self.assert_error(InvalidDocument(None), call, self.world, wrong, {"len": True}, "gone", "gone")
                    self.assert_error(InvalidDocument(None), call, self.world, {}, wrong, "gone", "gone")
                self.assert_error(UnknownProgram(wrong), call, self.world, {}, {}, wrong, "gone")
                self.assert_error(UnknownOwn(wrong), call, self.world, {}, {}, "new", wrong)
            self.assert_error(InvalidDocument("len"), call, self.world, {"size": "a", "len": True}, 7, "gone", "gone")
            self.assert_error(InvalidDocument("len"), call, self.world, {}, {"size": "a", "len": True}, "gone", "gone")

    def test_wrong_steps(self):
        for wrong in odd_values() + ["new", 1, {"new": {}}]:
            if not isinstance(wrong, (list, tuple)):
                self.assert_error(InvalidStep(-1), is_by_hand, self.world, {}, {}, "new", "size", wrong)
            self.assert_error(InvalidStep(1), is_by_hand, self.world, {}, {}, "new", "size", [("new", {}), wrong, 7])
        for wrong in [("new", {"flag": None}), ("new", {"flag": "x"}), ("new", {"gone": 1}), ("gone", {}), ["new", {}], ("new", {}, 1)]:
            self.assert_error(InvalidStep(0), is_by_hand, self.world, {}, {}, "new", "size", [wrong])

    def test_arguments_stay(self):
        base, copy, steps = {"len": 7}, {"len": 9}, [("old", {"size": 9})]
        is_by_hand(self.world, base, copy, "new", "size", steps)
        found = past(self.world, base, copy, "new", "size", True)
        found[0][1].clear()
        found.clear()
        self.assertEqual((base, copy, steps), ({"len": 7}, {"len": 9}, [("old", {"size": 9})]))
        self.assertEqual(len(past(self.world, base, copy, "new", "size", True)), 1)


class DriftsTest(KeptCase):
    def test_drifts(self):
        world = example()
        self.assertEqual(drifts(world=world, document={"size": 300}),
                         [([], {"size": 300}), (["old"], {"len": 5}), (["old", "new"], {"size": 5})])
        self.assertEqual(drifts(World({"a": "number"}), {"a": 1}), [([], {"a": 1})])
        document = {"size": 300}
        found = drifts(world, document)
        found[0][1].clear()
        found[1][0].clear()
        found.clear()
        self.assertEqual((document, len(drifts(world, document))), ({"size": 300}, 3))

    def test_too_many(self):
        self.assert_error(TooMany("documents", 3000), drifts, World({"a": "text", "b": "text"}, [
            Program("a", {"x": Own("text", [("a", TextMap.same())])}, {"a": Write("x", TextMap(ring(60)))}),
            Program("b", {"x": Own("text", [("b", TextMap.same())])}, {"b": Write("x", TextMap(ring(51)))})]), {"a": "aa", "b": "aa"})
        fits = World({"a": "text", "b": "text"}, [
            Program("a", {"x": Own("text", [("a", TextMap.same())])}, {"a": Write("x", TextMap(ring(60)))}),
            Program("b", {"x": Own("text", [("b", TextMap.same())])}, {"b": Write("x", TextMap(ring(50)))})])
        self.assertEqual(len(drifts(fits, {"a": "aa", "b": "aa"})), 3000)
        self.assertEqual(len(drifts(turning(40), {"a": "aaa", "b": 1})), 40)

    def test_many_documents(self):
        world, document = rings_of_numbers([2, 2, 2, 3, 5, 5, 5])
        found = drifts(world, document)
        last = [f"k{letter}" for letter, size in zip("abcdefg", [2, 2, 2, 3, 5, 5, 5]) for _ in range(size - 1)]
        self.assertEqual((len(found), found[0], found[-1]), (3000, ([], document), (last, {
            "ka": 1, "kb": 1, "kc": 1, "kd": 2, "ke": 4, "kf": 4, "kg": 4})))
        # A document is the sum of the passes that its row has of each ring.
        for row, one in found:
            self.assertEqual(one, {field: row.count(field) for field in document})
            self.assertEqual(row, sorted(row))
        self.assertEqual(found, sorted(found, key=lambda one: (len(one[0]), one[0])))
        self.assertEqual(len({told(one) for _, one in found}), 3000)
        for sizes in [[2, 2, 2, 3, 5, 5, 6], [3, 2, 2, 3, 5, 5, 5], [2, 2, 2, 2, 3, 3, 4, 6]]:
            self.assert_error(TooMany("documents", 3000), drifts, *rings_of_numbers(sizes))
        # One document more, the one without fields, is one too many.
        self.assert_error(TooMany("documents", 3000), drifts, world.with_program(Program("drop", keeps=False)), document)
        world, document = rings_of_numbers([2, 2, 2, 3, 5, 5])
        self.assertEqual(len(drifts(world.with_program(Program("drop", keeps=False)), document)), 601)

    def test_what_is_returned_is_free(self):
        world, document = rings_of_numbers([2, 3, 2])
        found = drifts(world, document)
        for row, one in found:
            row.append("ka")
            one.clear()
        self.assertEqual(len({id(row) for row, _ in found} | {id(one) for _, one in found}), 24)
        self.assertEqual([row for row, _ in drifts(world, document)][:4], [[], ["ka"], ["kb"], ["kc"]])

    def test_wrong_documents(self):
        for wrong in odd_values() + [{"gone": 1}]:
            if wrong != {}:
                self.assert_error(InvalidDocument(None), drifts, example(), wrong)
        self.assert_error(InvalidDocument("len"), drifts, example(), {"len": "a"})

    def test_drawn_worlds(self):
        for seed in range(150):
            draw = random.Random(seed)
            world = small_world(draw)
            document = drawn_document(draw, world)
            found = drifts(world, document)
            wanted = {}
            for row in rows_up_to(world.names(), 4):
                wanted.setdefault(told(behind_row(world, row, document)), row)
            self.assertEqual([one for one in found if len(one[0]) <= 4], [(row, dict(key)) for key, row in wanted.items()])
            kept = {told(one): row for row, one in found}
            self.assertEqual(len(kept), len(found))
            for row, one in found:
                self.assertEqual(behind_row(world, row, document), one)
                for name in world.names():
                    self.assertIn(told(passed(world, name, one)), kept)

    def test_drawn_worlds_pass_by_pass(self):
        many = []
        for seed in range(400):
            draw = random.Random(seed)
            world = drawn_world(draw)
            document = drawn_document(draw, world)
            wanted = {told(document): []}
            for key, row in longer(wanted):
                for name in sorted(world.names()):
                    wanted.setdefault(told(passed(world, name, dict(key))), row + [name])
            self.assertEqual(drifts(world, document), [(row, dict(key)) for key, row in wanted.items()])
            many.append(len(wanted))
        self.assertGreater(max(many), 20)


def longer(found):
    """Yield the items of a dict, also those that are added meanwhile."""
    place = 0
    while place < len(found):
        yield list(found.items())[place]
        place += 1


def rings_of_numbers(sizes):
    """Return a world in which each program turns a number of its own in a ring of one of the sizes, and all zeros."""
    fields = [f"k{chr(97 + place)}" for place in range(len(sizes))]
    lines = [f"field {field} number" for field in fields]
    for field, size in zip(fields, sizes):
        pieces = ["*..-1=0"] + [f"{at}..{at}={at + 1}" for at in range(size - 1)] + [f"{size - 1}..*=0"]
        lines += [f"program {field} keep", "own f number none - no", f"source {field} *..*=same",
                  f"write {field} f {','.join(pieces)} go"]
    return parse_world("\n".join(lines) + "\n"), {field: 0 for field in fields}


def ring(size):
    """Return exceptions that turn so many texts in a ring."""
    words = [chr(97 + at // 26) + chr(97 + at % 26) for at in range(size)]
    return {words[at]: words[(at + 1) % size] for at in range(size)}


class JoinedTest(KeptCase):
    def setUp(self):
        self.world = example()

    def test_sides(self):
        base = {"size": 7, "flag": "x"}
        self.assertEqual(told_open(world=self.world, name="new", base=base, documents=[{"size": 8, "flag": "x"}, {"size": 7, "flag": "on"}]), [])
        made = told_joined(self.world, "new", base, [{"size": 8, "flag": "x"}, {"size": 7, "flag": "on"}])
        self.assertEqual(made, {"size": 8, "flag": "on"})
        self.assertEqual(told_joined(self.world, "new", base, [{"flag": "x"}, base]), {"flag": "x"})

    def test_split_own_fields(self):
        base = {"size": 7}
        both = [{"size": 8}, {"size": 9}, {"size": 7}]
        self.assertEqual(told_open(self.world, "new", base, both), ["size"])
        self.assertEqual(told_joined(world=self.world, name="new", base=base, documents=both, choices={"size": 70}), {"size": 70})
        self.assertEqual(told_joined(self.world, "new", base, tuple(both), {"size": None}), {})

    def test_open_own_fields(self):
        # No past leads to 120; where all show the same, nothing is open.
        self.assertEqual(told_open(self.world, "old", {"len": 7}, [{"len": 120}, {"len": 7}]), ["size"])
        self.assertEqual(told_open(self.world, "old", {"len": 7}, [{"len": 120}, {"len": 120}]), [])
        self.assertEqual(told_joined(self.world, "old", {"len": 7}, [{"len": 120}]), {"len": 7})
        # An own field is open also if it has sides.
        self.assertEqual(told_open(self.world, "old", {"len": 7}, [{"len": 120}, {"len": 9}]), ["size"])
        self.assertEqual(told_joined(self.world, "old", {"len": 7}, [{"len": 120}, {"len": 9}], {"size": 50}), {"len": 50})

    def test_all_these_are_edited(self):
        leave = Program("leave", {"y": Own("number", [("b", SAME)], settable=FULL, removable=True)},
                        {"b": Write("y", SAME), "a": Write("y", SAME, leaves=True)})
        world = World({"a": "number", "b": "number"}, [leave, Program("drop", {}, {"a": None})])
        self.assertEqual(told_joined(world, "leave", {"a": 1}, [{"a": 1}]), {"a": 1})
        # The removal of an own field that has nothing takes "a" away.
        self.assertEqual(told_joined(world, "leave", {"a": 1, "b": 2}, [{}]), {})
        split = [{"a": 1, "b": 3}, {"a": 1, "b": 4}]
        self.assertEqual(told_joined(world, "leave", {"a": 1}, split, {"y": None}), {})

    def test_wrong_arguments(self):
        for call in (told_open, told_joined):
            for wrong in odd_values() + ["gone", 1, {"a": 1}, [{}] * 7]:
                if not isinstance(wrong, (list, tuple)) or len(wrong) in (0, 7):
                    self.assert_error(InvalidCopies(-1), call, self.world, "new", {}, wrong)
                if wrong != {}:
                    self.assert_error(InvalidCopies(1), call, self.world, "new", {}, [{}, wrong, 7])
                    self.assert_error(InvalidDocument(None), call, self.world, "new", wrong, 7)
                self.assert_error(UnknownProgram(wrong), call, self.world, wrong, 7, 7)
            self.assert_error(InvalidCopies(0), call, self.world, "new", {}, [{"len": "a"}])

    def test_wrong_choices(self):
        both = [{"size": 8}, {"size": 9}]
        for wrong in odd_values() + [["size"], {"size": 1, "flag": "on"}, {LikeName("size"): 1}]:
            self.assert_error(InvalidChoice(None), told_joined, self.world, "new", {"size": 7}, both, wrong)
            if wrong is not None:
                self.assert_error(InvalidChoice("size"), told_joined, self.world, "new", {"size": 7}, both, {"size": wrong})
                if wrong != {}:
                    self.assert_error(InvalidChoice(None), told_joined, self.world, "new", {"size": 7}, [{"size": 8}], wrong)
        self.assertEqual(told_joined(self.world, "new", {"size": 7}, [{"size": 8}], {}), {"size": 8})

    def test_arguments_stay(self):
        base, documents, choices = {"size": 7}, [{"size": 8}, {"size": 9}], {"size": 1}
        told_joined(self.world, "new", base, documents, choices).clear()
        told_open(self.world, "new", base, documents).clear()
        self.assertEqual((base, documents, choices), ({"size": 7}, [{"size": 8}, {"size": 9}], {"size": 1}))
        self.assertEqual(told_open(self.world, "new", base, documents), ["size"])


class DrawnTest(KeptCase):
    def test_pasts_by_trying_steps(self):
        found = {}
        for seed in range(120):
            draw = random.Random(seed)
            world = small_world(draw)
            base = drawn_document(draw, world)
            states = states_of(world, base, 600)
            if states is None:
                continue
            copies = [dict(draw.choice(states)[1][0]) for _ in range(3)] + [drawn_document(draw, world) for _ in range(2)]
            for copy in copies:
                for name, own in all_own(world):
                    costs = own_costs(world, states, copy, name, own)
                    self.assertEqual(least_costs(world, base, copy, name, own), costs)
                    told_verdict = verdict(world, base, copy, name, own)
                    self.assertEqual(told_verdict, verdict_of(costs))
                    found[told_verdict] = found.get(told_verdict, 0) + 1
                    self.check_pasts(world, base, copy, name, own, costs)
            self.check_joined(draw, world, base, states, copies)
        self.assertLessEqual({"idle", "needed", "none", "open"}, set(found))

    def check_pasts(self, world, base, copy, name, own, costs):
        """Check that the told pasts are such, with the least costs."""
        for by_hand, cost in zip((True, False), costs):
            steps = past(world, base, copy, name, own, by_hand)
            if cost is None:
                self.assertIsNone(steps)
            else:
                self.assertIs(is_by_hand(world, base, copy, name, own, steps), by_hand)
                self.assertEqual(sum(len(edit) for _, edit in steps), cost)

    def check_joined(self, draw, world, base, states, copies):
        """Check documents joined without logs by an own look at their verdicts."""
        documents = draw.sample(copies, draw.randint(1, 3))
        name = draw.choice(world.names())
        start = brute_copies.root_copy(world, base)
        given, opened = {}, []
        for own in world.program(name).own_fields():
            sides, shown, verdicts = set(), set(), []
            for document in documents:
                verdicts.append(verdict_of(own_costs(world, states, document, name, own)))
                shown.add(brute_copies.shows(world, brute_copies.root_copy(world, document), name, own)[0])
                if verdicts[-1] in ("needed", "hand"):
                    sides.add(brute_copies.shown_at(world, brute_copies.root_copy(world, document), (name, own))[0])
            if len(sides) > 1 or (len(shown) > 1 and ("open" in verdicts or "none" in verdicts)):
                opened.append(own)
                given[own] = draw.choice([None, drawn_value(draw, world.program(name).own_field(own).kind)])
            elif sides:
                given[own] = list(sides)[0]
        self.assertEqual(told_open(world, name, base, documents), opened)
        wanted = brute_copies.stepped(world, start, name, given, {own: 1 for own in given})[0]
        self.assertEqual(told_joined(world, name, base, documents, {own: given[own] for own in opened}), wanted)


if __name__ == "__main__":
    unittest.main()

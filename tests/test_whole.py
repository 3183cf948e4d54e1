"""Tests of what points 2 and 4 say of the whole program: each call by position and by name, results that are new."""

import copy
import unittest

from keptedits.copies import Copy
from keptedits.desk import Desk
from keptedits.graphs import ListGraph, alike, parting_rows
from keptedits.harms import KINDS, harm_kind, harms, harms_here, is_safe, is_safe_here, least_of_kind
from keptedits.joins import Join
from keptedits.lets import Admission
from keptedits.lists import SourceList, parting
from keptedits.maps import NumberMap, TextMap
from keptedits.marks import edited_list, removed_list
from keptedits.offers import Adapters, applied, fits
from keptedits.papers import is_kept_paper, is_safe_paper, is_seen_paper, kept_paper, safe_paper, seen_paper
from keptedits.passes import edited, effect, is_document, is_edit, made_new, passed, read, run, run_all
from keptedits.peace import disturbance, disturbs
from keptedits.programs import Own, Program, Write
from keptedits.putting import field_list, over_row, own_list, pass_lists, put_back
from keptedits.reached import Beginnings, Reached
from keptedits.seen import echo, echo_here, problem, problem_here
from keptedits.sets import Numbers, Texts, is_value, kind_of, natural
from keptedits.store import Store
from keptedits.sure import (always_alike, covers, implies, is_sure, shown, way_showing, way_unlike, way_without)
from keptedits.texts import (document_text, map_text, parse_document, parse_map, parse_set, parse_world, set_text,
                             value_text, world_text)
from keptedits.toldback import drifts, is_by_hand, least_costs, past, told_joined, told_open, verdict
from keptedits.wishes import Wishes
from keptedits.worlds import World
from tests.helpers import KeptCase
from tests.test_interface import CLASSES, FUNCTIONS

SAME, LOW, TEXT = NumberMap.same(), NumberMap.cut(0, 9), TextMap.same()
FULL = Numbers.full()
OLD = Program("old", {"size": Own("number", [("len", SAME)], default=5, settable=Numbers([(0, 200)]), removable=True)},
              {"len": Write("size", NumberMap.cut(0, 99))}, keeps=False)
NEW = Program("new", {"size": Own("number", [("size", SAME), ("len", SAME)], settable=FULL, removable=True),
                      "flag": Own("text", [("flag", TEXT)], settable=Texts(["on", "off"]))},
              {"size": Write("size", SAME), "len": None, "flag": Write("flag", TEXT)})
WORLD = World({"len": "number", "size": "number", "flag": "text"}, [OLD, NEW])
BEGIN = Beginnings(new=["old"], documents=[{"size": 300}])
REACHED = Reached(WORLD, BEGIN)
LIST = own_list(WORLD, "new", "size")
GRAPH = ListGraph(WORLD, LIST)
MARKED = edited_list(WORLD, "new", "size", LIST)
WISHES = Wishes(WORLD, [("safe", "new", "size"), ("sure", "new", "size"), ("seen", "old", "size", "new", "size")], BEGIN)
OFFERS = [("keep", "old"), ("no default", "old", "size"), ("write", "old", "size", "size", SAME), ("read", "old", "size", "size", SAME, "first")]
ADAPTERS = Adapters(Wishes(WORLD, [("safe", "new", "size")], BEGIN), OFFERS)
ADMISSION = Admission(WISHES)
COPY = Copy(WORLD, {"size": 7})
ONE, OTHER = COPY.stepped("new", {"size": 8}, number=1), COPY.stepped("new", {"size": 9}, number=2)
JOIN = Join(WORLD, "new", [ONE, OTHER])
CHOICES = {("new", "size"): 4}
PAPER = safe_paper(WORLD.only("new"), "new", "size")
SEEN = seen_paper(WORLD.only("new"), "new", "size", "new", "size")

# For each function the values of its parameters, in their sequence, by its name.
CALLS = {
    is_value: [3, "number"], kind_of: ["ab"], natural: [-3],
    is_document: [WORLD, {"len": 3}], is_edit: [WORLD, "new", {"size": 3}], read: [WORLD, "new", {"len": 3}],
    passed: [WORLD, "new", {"len": 3}], effect: [WORLD, "new", {"len": 3}, {"size": 4, "flag": "on"}],
    edited: [WORLD, "new", {"len": 3}, {"size": 4}], made_new: [WORLD, "new", {"size": 4}],
    run: [WORLD, [("new", {"size": 4}), ("old", {})], {"len": 3}], run_all: [WORLD, [("new", {"size": 4}), ("old", {})], {"len": 3}],
    parting: [LIST, own_list(WORLD, "old", "size")], own_list: [WORLD, "new", "size"], field_list: [WORLD, "len"],
    pass_lists: [WORLD, "new"], put_back: [WORLD, "old", LIST], over_row: [WORLD, ["new", "old"], LIST],
    shown: [REACHED, "new", "size"], is_sure: [REACHED, "new", "size"], way_without: [REACHED, "new", "flag"],
    way_showing: [REACHED, "new", "size", 42], implies: [REACHED, "new", "size", "old", "size"],
    always_alike: [REACHED, "new", "size", "old", "size"], way_unlike: [REACHED, "new", "size", "old", "size"], covers: [REACHED, "new"],
    alike: [WORLD, ["new"], ["old"]], parting_rows: [WORLD, ["new"], ["old"]],
    harms: [WORLD, "old", "size", ["new"]], harm_kind: [LIST, own_list(WORLD, "old", "size"), {"size": 4}],
    least_of_kind: [LIST, own_list(WORLD, "old", "size"), "reset"], is_safe: [WORLD, "new", "size", ["new"]],
    harms_here: [REACHED, "old", "size"], is_safe_here: [REACHED, "new", "size"],
    edited_list: [WORLD, "new", "size", LIST], removed_list: [WORLD, "new", "size", LIST],
    problem: [WORLD, "old", "size", "new", "size"], problem_here: [REACHED, "old", "size", "new", "size"],
    echo: [WORLD, "old", "size", "new", "size"], echo_here: [REACHED, "old", "size", "new", "size"],
    fits: [WORLD, ("keep", "old")], applied: [WORLD, OFFERS],
    disturbance: [WORLD, "new", "new", "size", "old", "size"],
    disturbs: [WORLD, "new", "new", "size", 3, "old", "size", 4, {"len": 4}],
    verdict: [WORLD, {"len": 3}, {"size": 4}, "new", "size"], least_costs: [WORLD, {"len": 3}, {"size": 3}, "new", "size"],
    past: [WORLD, {"len": 3}, {"size": 4}, "new", "size", True],
    is_by_hand: [WORLD, {"len": 3}, {"size": 4}, "new", "size", [("new", {"size": 4})]], drifts: [WORLD, {"size": 300}],
    told_open: [WORLD, "new", {"size": 3}, [{"size": 4}, {"size": 6}]],
    told_joined: [WORLD, "new", {"size": 3}, [{"size": 4}, {"size": 6}], {"size": 7}],
    value_text: [3], map_text: [LOW], set_text: [FULL], document_text: [{"len": 3, "flag": "a"}], world_text: [WORLD],
    parse_map: ["*..*=same", "number"], parse_set: ["in:a", "text"], parse_document: [WORLD, "flag=a len=3"], parse_world: [world_text(WORLD)],
    safe_paper: [WORLD.only("new"), "new", "size"], seen_paper: [WORLD.only("new"), "new", "size", "new", "size"],
    kept_paper: [WORLD.only("new"), "new", "size", "new", "size"], is_safe_paper: [WORLD.only("new"), "new", "size", PAPER],
    is_seen_paper: [WORLD.only("new"), "new", "size", "new", "size", SEEN], is_kept_paper: [WORLD.only("new"), "new", "size", "new", "size", SEEN],
}

# For each object its methods that only ask, with the values of their parameters.
METHODS = [
    (FULL, {"least": [], "united": [Numbers.of(3)], "shared": [Numbers.of(3)], "without": [Numbers.of(3)], "stretches": []}),
    (Texts(["a", "b"]), {"words": [], "least": []}),
    (LOW, {"at": [12], "then": [SAME], "image": [FULL], "before": [FULL], "constant": [FULL], "apart": [SAME, FULL], "pieces": []}),
    (TextMap({"a": "b"}), {"at": ["a"], "exceptions": []}),
    (OLD, {"own_fields": [], "writes": [], "own_field": ["size"], "known_fields": []}),
    (WORLD, {"fields": [], "programs": [], "names": [], "program": ["new"], "kind_of_field": ["len"], "with_program": [Program("third")]}),
    (LIST, {"fields": [], "decider": [("len",)], "at": [{"len": 3}], "is_always": [3]}),
    (BEGIN, {"documents": []}),
    (REACHED, {"presences": [], "values_of": [("size",), "size"], "way_to": [("size",)], "way_with": [("size",), "size", 42],
               "can_part": [("size",), "size", LOW, "size", SAME], "way_parting": [("size",), "size", LOW, "size", SAME],
               "document_of": [(("new", "old", {"size": 4}), [("new", {})])]}),
    (GRAPH, {"lists": [], "rows": [], "row_to": [LIST], "walk": [], "is_before": [["new"], ["old"]]}),
    (MARKED, {"shows": [{"len": 3}, 4], "alike": [MARKED]}),
    (WISHES, {"all_wishes": [], "fault": [1, WORLD], "first_fault": [WORLD]}),
    (ADAPTERS, {"offers": [], "fault": [(0, 1)], "least": [], "smaller": []}),
    (ADMISSION, {"is_let": [["new"]], "bad_sets": [], "greatest_sets": [], "admits": [["new"], "old"]}),
    (ONE, {"document": [], "root": [], "origin": ["size"], "shown": ["new", "size"]}),
    (JOIN, {"copies": [], "sides": [("new", "size")], "readings": [], "split_readings": [], "asked": [], "due": ["new", "size"], "unseen": []}),
]


def listed(value):
    """Return a value, what a generator yields as a list."""
    return list(value) if hasattr(value, "__next__") else value


def spoil(value):
    """Change all lists and dicts in a value."""
    if isinstance(value, (list, tuple)):
        for part in value:
            spoil(part)
    if isinstance(value, dict):
        for part in value.values():
            spoil(part)
        value.clear()
        value["spoilt"] = 1
    if isinstance(value, list):
        value.clear()
        value.append("spoilt")


def told(value):
    """Return what tells values apart, also objects that have no equality."""
    if isinstance(value, (list, tuple)):
        return [told(part) for part in value]
    if isinstance(value, dict):
        return {key: told(part) for key, part in value.items()}
    return value


class WholeTest(KeptCase):
    def check(self, call, names, values):
        """Check a call by position and by name, with its results changed and its arguments left as they are."""
        kept = [told(value) for value in values]
        first = listed(call(*values))
        wanted = copy.deepcopy(told(first)) if isinstance(first, (list, tuple, dict)) else first
        spoil(first)
        again = listed(call(**dict(zip(names, values))))
        self.assertEqual(told(again) if isinstance(again, (list, tuple, dict)) else again, wanted)
        self.assertEqual([told(value) for value in values], kept)

    def test_all_functions(self):
        names = {call.__name__ for call in CALLS}
        self.assertEqual(names, {name for told_names in FUNCTIONS.values() for name in told_names})
        for call, values in CALLS.items():
            told_names = [table[call.__name__] for table in FUNCTIONS.values() if call.__name__ in table][0]
            self.check(call, [one.split("=")[0] for one in told_names.split(", ")], values)

    def test_all_methods_that_ask(self):
        checked = set()
        for thing, calls in METHODS:
            for name, values in calls.items():
                owner = [base.__name__ for base in type(thing).__mro__ if name in vars(base)][0]
                told_names = [table[owner][name] for table in CLASSES.values() if owner in table][0]
                names = [one.split("=")[0] for one in told_names.split(", ") if one not in ("self", "cls", "*")]
                self.check(getattr(thing, name), names[:len(values)], values)
                checked.add((owner, name))
        self.assertGreaterEqual(len(checked), 65)

    def test_calls_with_named_parameters(self):
        self.assertEqual(ONE.stepped("new", {"size": 5}, number=4), ONE.stepped(name="new", edit={"size": 5}, number=4))
        self.assertEqual(JOIN.joined(CHOICES, number=3), JOIN.joined(choices=CHOICES, number=3))
        self.assertEqual(JOIN.mixed(CHOICES, number=3), JOIN.mixed(choices=CHOICES, number=3))
        for call, values in [(ONE.stepped, ["new", {}, 4]), (JOIN.joined, [CHOICES, 3]), (JOIN.mixed, [CHOICES, 3]), (Texts, [["a"], True]),
                             (Beginnings, [["old"]]), (Own, ["number", [], 3]), (Write, ["x", SAME, True]), (Program, ["x", {}, {}, True])]:
            self.assertRaises(TypeError, call, *values)

    def test_objects_by_name(self):
        self.assertEqual(Own(kind="number", sources=[("a", SAME)], default=3, settable=FULL, removable=True), Own("number", (("a", SAME),), default=3, settable=FULL, removable=True))
        self.assertEqual(Write(own="x", mapping=SAME, leaves=True), Write("x", SAME, leaves=True))
        self.assertEqual(Program(name="p", own={}, writes={"a": None}, keeps=False), Program("p", None, {"a": None}, keeps=False))
        self.assertEqual(World(fields={"a": "text"}, programs=()), World({"a": "text"}))
        self.assertEqual(SourceList(kind="text", entries=[("a", TEXT)], end="b"), SourceList("text", (("a", TEXT),), "b"))
        self.assertEqual([Numbers(stretches=[(0, 1)]), Texts(words=["a"], others=True)], [Numbers([(0, 1)]), Texts(["a"], others=True)])
        self.assertEqual([NumberMap(pieces=[(None, None, None)]), TextMap(exceptions={}, rest=None)], [SAME, TEXT])
        self.assertEqual(NumberMap.reset(first=0, last=9, value=3), NumberMap.reset(0, 9, 3))
        self.assertEqual(ListGraph(world=WORLD, first=LIST, programs=["old"]).rows(), [[], ["old"]])
        self.assertEqual(Reached(world=WORLD, beginnings=BEGIN).presences(), REACHED.presences())
        self.assertEqual(Adapters(wishes=WISHES, offers=[]).least(), [])
        self.assertEqual((Store(world=WORLD).names(), Desk(world=WORLD).store.names()), ([], []))

    def test_no_object_is_equal_to_another_kind(self):
        things = [thing for thing, _ in METHODS] + [Store(WORLD), Desk(WORLD), SAME, TEXT, OLD.own_field("size"), OLD.writes()["len"]]
        for place, thing in enumerate(things):
            for value in [None, 0, 1, True, "a", (), [], {}, object()] + things[:place]:
                if value is not thing and not isinstance(value, type(thing)):
                    self.assertFalse(thing == value)

    def test_kinds_of_harm(self):
        self.assertEqual(KINDS, ("lost", "made", "changed", "taken", "filled", "reset", "moved"))


if __name__ == "__main__":
    unittest.main()

"""Tests that each name of the interface is defined where it is listed, with the listed parameters."""

import ast
import unittest
from pathlib import Path

PACKAGE = Path(__file__).resolve().parent.parent / "keptedits"

FUNCTIONS = {
    "sets": {"is_value": "value, kind", "kind_of": "value", "natural": "value"},
    "maps": {},
    "programs": {},
    "worlds": {},
    "passes": {"is_document": "world, value", "is_edit": "world, name, value", "read": "world, name, document",
               "passed": "world, name, document", "effect": "world, name, document, edit",
               "edited": "world, name, document, edit", "made_new": "world, name, edit=None",
               "run": "world, steps, document", "run_all": "world, steps, document"},
    "lists": {"parting": "one, other"},
    "putting": {"own_list": "world, name, own", "field_list": "world, field", "pass_lists": "world, name",
                "put_back": "world, name, first", "over_row": "world, row, first"},
    "reached": {},
    "sure": {"shown": "reached, name, own", "is_sure": "reached, name, own", "way_without": "reached, name, own",
             "way_showing": "reached, name, own, value", "implies": "reached, name, own, other_name, other",
             "always_alike": "reached, name, own, other_name, other",
             "way_unlike": "reached, name, own, other_name, other", "covers": "reached, name"},
    "graphs": {"alike": "world, one, other", "parting_rows": "world, one, other"},
    "harms": {"harms": "world, name, own, programs=None", "harm_kind": "direct, behind, document",
              "least_of_kind": "direct, behind, kind", "is_safe": "world, name, own, programs=None",
              "harms_here": "reached, name, own", "is_safe_here": "reached, name, own"},
    "marks": {"edited_list": "world, name, own, first", "removed_list": "world, name, own, first"},
    "seen": {"problem": "world, writer, edited, name, own", "problem_here": "reached, writer, edited, name, own",
             "echo": "world, writer, edited, name, own", "echo_here": "reached, writer, edited, name, own"},
    "wishes": {},
    "offers": {"fits": "world, offer", "applied": "world, offers"},
    "lets": {}, "copies": {}, "joins": {}, "store": {}, "desk": {},
    "peace": {"disturbance": "world, name, first, own, second, other",
              "disturbs": "world, name, first, own, value, second, other, other_value, root"},
    "toldback": {"verdict": "world, base, copy, name, own", "least_costs": "world, base, copy, name, own",
                 "past": "world, base, copy, name, own, by_hand",
                 "is_by_hand": "world, base, copy, name, own, steps", "drifts": "world, document",
                 "told_open": "world, name, base, documents",
                 "told_joined": "world, name, base, documents, choices=None"},
    "texts": {"value_text": "value", "map_text": "mapping", "set_text": "values", "document_text": "document",
              "world_text": "world", "parse_map": "text, kind", "parse_set": "text, kind",
              "parse_document": "world, text", "parse_world": "text"},
    "papers": {"safe_paper": "world, name, own", "seen_paper": "world, writer, edited, name, own",
               "kept_paper": "world, writer, edited, name, own", "is_safe_paper": "world, name, own, lists",
               "is_seen_paper": "world, writer, edited, name, own, lists",
               "is_kept_paper": "world, writer, edited, name, own, lists"},
}

CLASSES = {
    "sets": {
        "ValueSet": {"kind": "self", "is_empty": "self", "size": "self", "least": "self", "united": "self, other",
                     "shared": "self, other", "without": "self, other", "__contains__": "self, value",
                     "__eq__": "self, other"},
        "Numbers": {"__init__": "self, stretches=()", "stretches": "self", "full": "cls", "of": "cls, *values",
                    "__repr__": "self"},
        "Texts": {"__init__": "self, words=(), *, others=False", "words": "self", "others": "self", "full": "cls",
                  "of": "cls, *values", "__repr__": "self"},
    },
    "maps": {
        "Map": {"kind": "self", "at": "self, value", "then": "self, other", "image": "self, values",
                "before": "self, values", "constant": "self, among=None", "apart": "self, other, among=None",
                "__eq__": "self, other"},
        "NumberMap": {"__init__": "self, pieces", "pieces": "self", "same": "cls", "constant_map": "cls, value",
                      "cut": "cls, first, last", "reset": "cls, first, last, value", "__repr__": "self"},
        "TextMap": {"__init__": "self, exceptions=None, rest=None", "exceptions": "self", "rest": "self", "same": "cls",
                    "constant_map": "cls, value", "__repr__": "self"},
    },
    "programs": {
        "Own": {"__init__": "self, kind, sources=(), *, default=None, settable=None, removable=False", "kind": "self",
                "sources": "self", "default": "self", "settable": "self", "removable": "self", "__eq__": "self, other"},
        "Write": {"__init__": "self, own, mapping, *, leaves=False", "own": "self", "mapping": "self", "leaves": "self",
                  "__eq__": "self, other"},
        "Program": {"__init__": "self, name, own=None, writes=None, *, keeps=True", "name": "self", "keeps": "self",
                    "own_fields": "self", "writes": "self", "own_field": "self, own", "known_fields": "self",
                    "__eq__": "self, other", "__repr__": "self"},
    },
    "worlds": {
        "World": {"__init__": "self, fields, programs=()", "fields": "self", "programs": "self", "names": "self",
                  "program": "self, name", "kind_of_field": "self, field", "only": "self, *names",
                  "with_program": "self, program", "__contains__": "self, name", "__len__": "self",
                  "__eq__": "self, other"},
    },
    "lists": {
        "SourceList": {"__init__": "self, kind, entries=(), end=None", "kind": "self", "entries": "self", "end": "self",
                       "fields": "self", "decider": "self, presence", "at": "self, document",
                       "is_always": "self, value", "__len__": "self", "__contains__": "self, field",
                       "__eq__": "self, other", "__repr__": "self"},
    },
    "reached": {
        "Beginnings": {"__init__": "self, *, new=(), documents=(), anything=False", "new": "self", "anything": "self",
                       "documents": "self", "__eq__": "self, other"},
        "Reached": {"__init__": "self, world, beginnings", "world": "self", "beginnings": "self", "presences": "self",
                    "values_of": "self, presence, field", "way_to": "self, presence",
                    "way_with": "self, presence, field, value",
                    "can_part": "self, presence, one, first, other, second",
                    "way_parting": "self, presence, one, first, other, second", "document_of": "self, way",
                    "__contains__": "self, presence", "__len__": "self"},
    },
    "graphs": {
        "ListGraph": {"__init__": "self, world, first, programs=None", "first": "self", "under": "self",
                      "lists": "self", "rows": "self", "row_to": "self, value", "walk": "self",
                      "is_before": "one, other", "__len__": "self", "__contains__": "self, value"},
    },
    "marks": {
        "MarkedList": {"kind": "self", "entries": "self", "end": "self", "mark": "self", "settable": "self",
                       "shows": "self, document, value", "alike": "self, other", "__eq__": "self, other"},
    },
    "wishes": {
        "Wishes": {"__init__": "self, world, wishes, beginnings", "world": "self", "beginnings": "self",
                   "all_wishes": "self", "fault": "self, position, world=None", "first_fault": "self, world=None",
                   "__len__": "self"},
    },
    "offers": {
        "Adapters": {"__init__": "self, wishes, offers", "wishes": "self", "chosen": "self", "offers": "self",
                     "fault": "self, choice", "least": "self", "smaller": "self"},
    },
    "lets": {
        "Admission": {"__init__": "self, wishes", "wishes": "self", "is_let": "self, names", "bad_sets": "self",
                      "greatest_sets": "self", "admits": "self, names, name"},
    },
    "copies": {
        "Copy": {"__init__": "self, world, document", "world": "self", "known": "self", "document": "self",
                 "root": "self", "origin": "self, field", "stepped": "self, name, edit=None, *, number=None",
                 "shown": "self, name, own", "__eq__": "self, other"},
    },
    "joins": {
        "Join": {"__init__": "self, world, name, copies", "world": "self", "name": "self", "copies": "self",
                 "sides": "self, reading", "readings": "self", "split_readings": "self", "asked": "self",
                 "joined": "self, choices=None, *, number=None", "mixed": "self, choices=None, *, number=None",
                 "due": "self, name, own", "unseen": "self"},
    },
    "store": {
        "Store": {"__init__": "self, world", "world": "self", "last": "self", "put": "self, name, document",
                  "copy_of": "self, name", "step": "self, name, program, edit=None", "fork": "self, name, new",
                  "drop": "self, name", "merge": "self, new, program, names, choices=None", "undo": "self",
                  "names": "self", "__len__": "self", "__contains__": "self, name", "__iter__": "self"},
    },
    "desk": {"Desk": {"__init__": "self, world", "store": "self", "run": "self, command"}},
}

BASES = {"Numbers": ["ValueSet"], "Texts": ["ValueSet"], "NumberMap": ["Map"], "TextMap": ["Map"]}

PROPERTIES = {
    "ValueSet": ["is_empty", "kind", "size"], "Numbers": [], "Texts": ["others"], "Map": ["kind"], "NumberMap": [],
    "TextMap": ["rest"], "Own": ["default", "kind", "removable", "settable", "sources"],
    "Write": ["leaves", "mapping", "own"], "Program": ["keeps", "name"], "World": [],
    "SourceList": ["end", "entries", "kind"], "Beginnings": ["anything", "new"], "Reached": ["beginnings", "world"],
    "ListGraph": ["first", "under"], "MarkedList": ["end", "entries", "kind", "mark", "settable"],
    "Wishes": ["beginnings", "world"], "Adapters": ["chosen", "wishes"], "Admission": ["wishes"],
    "Copy": ["known", "world"], "Join": ["name", "world"], "Store": ["last", "world"], "Desk": ["store"],
}

CLASS_VALUES = {"Program": {"MAX_OWN": 4}, "World": {"MAX_FIELDS": 8, "MAX_PROGRAMS": 8}}


def body_of(name):
    """Return the statements of a file of the package."""
    return ast.parse((PACKAGE / f"{name}.py").read_text(encoding="utf-8")).body


def parameters(function):
    """Return the parameters of a function as they are written."""
    return ast.unparse(function.args)


def decorated(function):
    """Return the names of the decorators over a method."""
    return [ast.unparse(one) for one in function.decorator_list]


class InterfaceTest(unittest.TestCase):
    def test_functions(self):
        for file, wanted in FUNCTIONS.items():
            found = {one.name: parameters(one) for one in body_of(file) if isinstance(one, ast.FunctionDef)}
            for name, told in wanted.items():
                self.assertEqual(found.get(name), told, (file, name))

    def test_methods_stand_in_the_class_itself(self):
        for file, classes in CLASSES.items():
            found = {one.name: one for one in body_of(file) if isinstance(one, ast.ClassDef)}
            for name, wanted in classes.items():
                methods = {one.name: one for one in found[name].body if isinstance(one, ast.FunctionDef)}
                for method, told in wanted.items():
                    self.assertIn(method, methods, name)
                    self.assertEqual(parameters(methods[method]), told, (name, method))

    def test_properties_class_methods_and_bases(self):
        for file, classes in CLASSES.items():
            found = {one.name: one for one in body_of(file) if isinstance(one, ast.ClassDef)}
            for name, wanted in classes.items():
                self.assertEqual([ast.unparse(base) for base in found[name].bases], BASES.get(name, []))
                methods = [one for one in found[name].body if isinstance(one, ast.FunctionDef)]
                told = sorted(one.name for one in methods if "property" in decorated(one))
                self.assertEqual(told, PROPERTIES[name], name)
                for one in methods:
                    first = one.args.args[0].arg
                    self.assertIs("classmethod" in decorated(one), first == "cls", one.name)
                    self.assertIs("staticmethod" in decorated(one), first not in ("self", "cls"), one.name)

    def test_generators(self):
        found = {f"{file.stem}.{one.name}" for file in PACKAGE.glob("*.py") for one in ast.walk(ast.parse(file.read_text()))
                 if isinstance(one, ast.FunctionDef) and any(isinstance(part, ast.Yield) for part in ast.walk(one))}
        self.assertEqual(found, {"passes.run_all", "graphs.walk", "offers.smaller"})

    def test_class_values(self):
        for file, classes in CLASSES.items():
            found = {one.name: one for one in body_of(file) if isinstance(one, ast.ClassDef)}
            for name in classes:
                values = {one.targets[0].id: one.value.value for one in found[name].body if isinstance(one, ast.Assign)}
                for key, value in CLASS_VALUES.get(name, {}).items():
                    self.assertEqual(values.get(key), value)


if __name__ == "__main__":
    unittest.main()

"""Tests of keptedits.desk: commands, their answers and what is no command (point 46)."""

import random
import unittest

from keptedits.desk import Desk
from keptedits.errors import (InvalidCommand, InvalidCopies, InvalidEdit, InvalidName, KeptError, NameTaken,
                              NothingToUndo, NotSettable, TooMany, UnknownName, UnknownOwn, UnknownProgram)
from keptedits.harms import harms
from keptedits.joins import Join
from keptedits.maps import NumberMap
from keptedits.programs import Own, Program, Write
from keptedits.seen import problem
from keptedits.sets import Numbers
from keptedits.store import Store
from keptedits.texts import document_text, value_text
from keptedits.worlds import World
from tests.brute import all_own
from tests.helpers import KeptCase, drawn_document, drawn_edit, drawn_world, odd_values
from tests.test_graphs import turning
from tests.test_toldback import example

SAME = NumberMap.same()


class CommandsTest(KeptCase):
    def setUp(self):
        self.desk = Desk(world=example())

    def run_all(self, *commands):
        """Return the answers to commands."""
        return [self.desk.run(command) for command in commands]

    def test_copies(self):
        self.assertEqual((self.desk.store.last, self.desk.store.names()), (0, []))
        self.assertEqual(self.desk.run(command="put a size=7"), "ok")
        self.assertEqual(self.run_all("put b -", "put c flag=x len=-3 size=0", "show b", "show c"), ["ok", "ok", "-", "flag=x len=-3 size=0"])
        self.assertEqual(self.run_all("fork a d", "show d", "drop a", "undo", "show a", "undo"), ["ok", "size=7", "ok", "ok", "size=7", "ok"])
        self.assertEqual(self.desk.store.names(), ["a", "b", "c"])
        self.assertEqual(self.desk.store.copy_of("c").document(), {"flag": "x", "len": -3, "size": 0})

    def test_steps_and_readings(self):
        self.desk.run("put a size=7")
        self.assertEqual(self.run_all("read a new size", "read a new flag", "read a old size"), ["7 root", "- -", "5 made"])
        self.assertEqual(self.run_all("set a new size=9 flag=on", "set a new size=9", "set a new size=-", "show a"), ["1", "-", "2", "flag=on"])
        self.assertEqual(self.run_all("read a new size", "read a new flag", "pass a old", "show a", "undo", "show a"),
                         ["- 2", "on 1", "len=5", "len=5", "ok", "flag=on"])

    def test_merges(self):
        self.run_all("put a size=7", "fork a b", "set a new size=9", "set b new flag=on")
        self.assertEqual(self.run_all("merge c new a b", "show c", "read c new size"), ["flag=on size=9", "flag=on size=9", "9 1"])
        self.assertEqual(self.desk.store.last, 2)
        self.run_all("set b new size=120 flag=off", "set a new flag=on")
        before = self.desk.store.names()
        # A merge that asks keeps nothing, and nothing of it is undone.
        self.assertEqual(self.desk.run("merge d new a b a"), "asked new.flag new.size")
        self.assertEqual((self.desk.store.names(), self.desk.store.last), (before, 4))
        self.assertEqual(self.run_all("undo", "read a new flag"), ["ok", "- -"])

    def test_merges_that_ask_for_fields(self):
        keep = Program("keep", {"x": Own("number", [("b", SAME)], settable=Numbers.full())}, {"b": Write("x", SAME)})
        more = Program("more", {"y": Own("number", [("a", SAME)], settable=Numbers.full())}, {"a": Write("y", SAME)})
        desk = Desk(World({"a": "number", "b": "number"}, [keep, more]))
        for command in ["put p -", "put q -", "set p more y=1", "set q more y=2", "set p keep x=1", "set q keep x=2"]:
            desk.run(command)
        self.assertEqual(desk.run("merge n keep p q"), "asked .a keep.x")

    def test_questions(self):
        world = self.desk.store.world
        self.assertEqual(self.desk.run("safe new flag"), "lost")
        self.assertEqual(self.desk.run("safe old size"), " ".join(told[0] for told in harms(world, "old", "size")))
        kind, row = problem(world, "old", "size", "new", "size")[:2]
        self.assertEqual(self.desk.run("seen old size new size"), " ".join([kind] + row))
        only = Desk(world.only("new"))
        self.assertEqual((only.run("safe new size"), only.run("seen new size new size"), only.run("seen new size new flag")), ("yes", "yes", "unread"))


class WrongTest(KeptCase):
    def setUp(self):
        self.desk = Desk(example())
        self.desk.run("put a size=7")

    def test_values_that_are_no_commands(self):
        wrong_commands = odd_values() + [
            7, "", " ", "undo ", " undo", "undo  ", "undo now", "Undo", "UNDO", "put", "put b", "put b ", "put  b -", "put b - -", "put b size=07", "put b size=x",
            "put b size=1 len=2", "put b gone=1", "put b size=1  flag=x", "put b size=", "put b flag=", "put A size=+1", "put b -\n", "fork a", "fork a b c", "drop", "drop a b", "pass a", "pass a old new",
            "set a new", "set a", "set a new size", "set a new size=1 size=2", "set a new size=1 size=1", "set a new size=01", "set a new size=A", "set a new size=1 flag", "set a new size=",
            "set a new size==1", "set a new size=1=2", "set a new size=- size=-", "set a new size=abcdefghijklm", "set gone gone size=1 x", "show", "show a a", "read a new", "read a new size size", "merge b new",
            "merge b", "merge b new ", "merge", "safe new", "safe", "safe new size size", "seen new size", "seen new size new", "seen new size new size size", "run", "names", "last"]
        for wrong in wrong_commands:
            self.assert_error(InvalidCommand(wrong), self.desk.run, wrong)
        self.assertEqual((self.desk.store.names(), self.desk.store.last), (["a"], 0))

    def test_errors_of_the_store(self):
        self.desk.run("put b size=8")
        for command, error in [
                ("put A -", InvalidName("A")), ("put abcdefghi -", InvalidName("abcdefghi")), ("put a -", NameTaken("a")), ("fork gone A", UnknownName("gone")),
                ("fork a A", InvalidName("A")), ("fork a b", NameTaken("b")), ("drop gone", UnknownName("gone")), ("pass gone gone", UnknownName("gone")),
                ("pass a gone", UnknownProgram("gone")), ("set gone gone x=1", UnknownName("gone")), ("set a gone x=1", UnknownProgram("gone")), ("set a new x=1", InvalidEdit(None)),
                ("set a new X=1", InvalidEdit(None)), ("set a new =1", InvalidEdit(None)), ("set a new size=x flag=-", InvalidEdit("flag")), ("set a new size=x", InvalidEdit("size")), ("show A", UnknownName("A")),
                ("show a\n", UnknownName("a\n")), ("read gone gone x", UnknownName("gone")), ("read a gone x", UnknownProgram("gone")), ("read a new x", UnknownOwn("x")),
                ("merge A gone a", InvalidName("A")), ("merge a gone a", NameTaken("a")), ("merge c gone a a a a a a a", UnknownProgram("gone")),
                ("merge c new a a a a a a gone", InvalidCopies(-1)), ("merge c new a b gone", UnknownName("gone")), ("merge c new a a b", InvalidCopies(2)),
                ("safe gone x", UnknownProgram("gone")), ("safe new x", UnknownOwn("x")), ("seen gone x gone x", UnknownProgram("gone")), ("seen new x gone x", UnknownOwn("x")),
                ("seen new size gone x", UnknownProgram("gone")), ("seen new size old x", UnknownOwn("x"))]:
            self.assert_error(error, self.desk.run, command)
        self.assertEqual(self.desk.store.names(), ["a", "b"])
        self.assertEqual([self.desk.run("undo"), self.desk.run("undo")], ["ok", "ok"])
        self.assert_error(NothingToUndo(), self.desk.run, "undo")

    def test_errors_of_questions(self):
        world = turning(8, 9, 25, 7)
        self.assert_error(TooMany("lists", 3000), Desk(world).run, "safe turn x")
        self.assert_error(NotSettable("x"), Desk(world).run, "seen turn x turn x")


class DrawnTest(KeptCase):
    def test_a_desk_beside_a_store(self):
        for seed in range(150):
            draw = random.Random(seed)
            world = drawn_world(draw)
            desk, store = Desk(world), Store(world)
            for _ in range(25):
                command, call = self.drawn_command(draw, world, store)
                try:
                    wanted = call()
                except (KeptError, LookupError) as error:
                    self.assert_error(error, desk.run, command)
                else:
                    self.assertEqual(desk.run(command), wanted)
                self.assertEqual((desk.store.last, desk.store.names()), (store.last, store.names()))
                for name in store:
                    self.assertEqual(desk.store.copy_of(name), store.copy_of(name))

    def drawn_command(self, draw, world, store):
        """Return a drawn command and a call that gives its answer by a store."""
        name, new, program = draw.choice("abc"), draw.choice("abc"), draw.choice(world.names())
        what = draw.choice(["put", "put", "set", "set", "set", "pass", "fork", "drop", "undo", "show", "read", "merge", "safe", "seen"])
        owns = all_own(world)
        if what == "put":
            document = {} if draw.random() < 0.6 else drawn_document(draw, world)
            return f"put {new} {document_text(document)}", lambda: store.put(new, document) or "ok"
        if what == "set":
            edit = drawn_edit(draw, world, program)
            if edit:
                words = [f"{own}={value_text(edit[own])}" for own in draw.sample(sorted(edit), len(edit))]
                return " ".join(["set", name, program] + words), lambda: value_text(store.step(name, program, edit))
        if what in ("fork", "drop", "undo"):
            call = {"fork": lambda: store.fork(name, new), "drop": lambda: store.drop(name), "undo": store.undo}[what]
            return {"fork": f"fork {name} {new}", "drop": f"drop {name}", "undo": "undo"}[what], lambda: call() or "ok"
        if what == "merge":
            names = [draw.choice("abc") for _ in range(draw.randint(1, 3))]
            return " ".join(["merge", new, program] + names), lambda: self.merged(world, store, new, program, names)
        if owns and what in ("safe", "seen", "read"):
            one, other = draw.choice(owns), draw.choice(owns)
            if what == "safe":
                return "safe {} {}".format(*one), lambda: " ".join(told[0] for told in harms(world, *one)) or "yes"
            if what == "seen":
                return "seen {} {} {} {}".format(*one, *other), lambda: self.seen(world, one, other)
            return f"read {name} {one[0]} {one[1]}", lambda: self.reading(store, name, one)
        if what == "pass":
            return f"pass {name} {program}", lambda: store.step(name, program) or document_text(store.copy_of(name).document())
        return f"show {name}", lambda: document_text(store.copy_of(name).document())

    def merged(self, world, store, new, program, names):
        """Return the answer to a merge."""
        if new not in store and all(name in store for name in names):
            asked = Join(world, program, [store.copy_of(name) for name in names]).asked()
            if asked:
                return " ".join(["asked"] + [".".join(one) for one in asked])
        store.merge(new, program, names)
        return document_text(store.copy_of(new).document())

    def seen(self, world, one, other):
        """Return the answer to the question whether an edit is seen."""
        found = problem(world, *one, *other)
        return "yes" if found is None else " ".join([found[0]] + found[1])

    def reading(self, store, name, one):
        """Return the answer to a reading."""
        value, origin = store.copy_of(name).shown(*one)
        return f"{value_text(value)} {'-' if origin is None else origin[-1]}"


if __name__ == "__main__":
    unittest.main()

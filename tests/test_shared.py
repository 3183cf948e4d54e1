"""Tests of what worlds share with those that are made of them: the answers are those of worlds that are made anew."""

import random
import unittest
from unittest import mock

from keptedits import moves, tables
from keptedits.errors import TooMany
from keptedits.graphs import ListGraph
from keptedits.harms import harms, harms_here
from keptedits.lets import Admission
from keptedits.maps import NumberMap
from keptedits.offers import Adapters, applied, fits
from keptedits.papers import is_kept_paper, is_seen_paper, kept_paper, seen_paper
from keptedits.programs import Own, Program, Write
from keptedits.putting import over_row, own_list, pass_lists
from keptedits.reached import Beginnings, Reached
from keptedits.seen import echo, echo_here, problem, problem_here
from keptedits.shared import Shared, program_key
from keptedits.sure import covers, shown
from keptedits.wishes import Wishes
from keptedits.worlds import World
from tests.brute import all_own, drawn_beginnings
from tests.helpers import KeptCase, anew, drawn_document, drawn_list, drawn_program, drawn_world
from tests.test_lets import drawn_wishes
from tests.test_offers import drawn_offer

SAME = NumberMap.same()


def answers_of_lists(world, some):
    """Return what a world tells of its own fields, and of a list over a row."""
    found = [over_row(world, world.names() * 2, some)] + [pass_lists(world, name) for name in world.names()]
    for name, own in all_own(world):
        graph = ListGraph(world, own_list(world, name, own))
        found += [graph.lists(), graph.rows(), harms(world, name, own), some in graph]
    return found


def answers_of_readers(world, reached):
    """Return what a world tells of edits and removals, and of what comes about."""
    found = [reached.presences(), [covers(reached, name) for name in world.names()]]
    for name, own in all_own(world):
        found += [shown(reached, name, own), harms_here(reached, name, own)]
        for other in all_own(world):
            if not world.program(name).own_field(own).settable.is_empty:
                paper = seen_paper(world, name, own, *other)
                found += [problem(world, name, own, *other), problem_here(reached, name, own, *other), paper,
                          is_seen_paper(world, name, own, *other, paper)]
            if world.program(name).own_field(own).removable:
                paper = kept_paper(world, name, own, *other)
                found += [echo(world, name, own, *other), echo_here(reached, name, own, *other), paper,
                          is_kept_paper(world, name, own, *other, paper)]
    return found


def made_of(draw, world):
    """Return a drawn world that is made of another one."""
    kind = draw.choice(["with", "only", "offer", "offer"])
    if kind == "only":
        return world.only(*draw.sample(world.names(), draw.randint(0, len(world))))
    offers = [drawn_offer(draw, world) for _ in range(6)] if len(world) > 0 else []
    fitting = [offer for offer in offers if fits(world, offer)]
    if kind == "offer" and fitting:
        return applied(world, fitting[:1])
    return world.with_program(drawn_program(draw, draw.choice(["p", "q", "s"]), world.fields()))


class SharedCase(KeptCase):
    def check_alike(self, draw, worlds):
        """Check drawn questions about worlds, in a drawn sequence, beside worlds that are made anew."""
        for _ in range(6):
            world = draw.choice(worlds)
            kind = draw.choice(sorted(world.fields().values()))
            some = drawn_list(draw, kind, [field for field, told in world.fields().items() if told == kind])
            self.assertEqual(answers_of_lists(world, some), answers_of_lists(anew(world), some))
            world, other = draw.choice(worlds), anew(world)
            beginnings = drawn_beginnings(draw, world)
            other = anew(world)
            self.assertEqual(answers_of_readers(world, Reached(world, beginnings)),
                             answers_of_readers(other, Reached(other, beginnings)))


class SharedTest(SharedCase):
    def test_worlds_made_of_others(self):
        for seed in range(60):
            draw = random.Random(seed)
            worlds = [drawn_world(draw)]
            for _ in range(4):
                worlds.append(made_of(draw, draw.choice(worlds)))
            self.check_alike(draw, worlds)

    def test_little_room(self):
        bounds = [(Shared, "MOST_PROGRAMS", 4), (tables, "MOST_KEPT", 6), (tables, "MOST_GRAPHS", 2), (moves, "MOST_MOVES", 20)]
        for seed in range(60, 90):
            draw = random.Random(seed)
            with mock.patch.object(*bounds[seed % 4]), mock.patch.object(*bounds[seed // 4 % 4]):
                worlds = [drawn_world(draw)]
                for _ in range(4):
                    worlds.append(made_of(draw, draw.choice(worlds)))
                self.check_alike(draw, worlds)
                self.check_adapters(draw, draw.choice([world for world in worlds if all_own(world)] or worlds))

    def test_adapters(self):
        for seed in range(100, 160):
            draw = random.Random(seed)
            world = drawn_world(draw)
            self.check_adapters(draw, world)
            self.check_adapters(draw, made_of(draw, world))

    def check_adapters(self, draw, world):
        """Check the faults of wishes in several worlds, of all choices and sets, beside wishes of worlds made anew."""
        if not all_own(world):
            return
        told = (drawn_wishes(draw, world), drawn_beginnings(draw, world))
        wishes = Wishes(world, *told)
        offers = [drawn_offer(draw, world) for _ in range(draw.randint(1, 4))]
        others = [world] + [applied(world, [offer]) for offer in offers if fits(world, offer)] + [made_of(draw, world)]
        for other in draw.sample(others * 2, len(others) * 2):
            plain = Wishes(anew(world), *told)
            self.assertEqual([wishes.fault(place, other) for place in range(len(wishes))],
                             [plain.fault(place, anew(other)) for place in range(len(wishes))])
            self.assertEqual(wishes.first_fault(other), plain.first_fault(anew(other)))
        made, again = Adapters(wishes, offers), Adapters(Wishes(anew(world), *told), offers)
        self.assertEqual((made.least(), list(made.smaller())), (again.least(), list(again.smaller())))
        self.assertEqual(Admission(wishes).bad_sets(), Admission(Wishes(anew(world), *told)).bad_sets())

    def test_wishes_of_one_world(self):
        reader = Program("s", {"y": Own("number", [("n", SAME)])})
        fields = {"n": "number", "m": "text"}
        some, other = World(fields, [reader]), World(fields, [reader, Program("t", {}, {"n": None})])
        made = Wishes(some, [("safe", "s", "y"), ("sure", "s", "y")], Beginnings(documents=[{"n": 3}]))
        for _ in range(2):
            self.assertEqual([made.fault(0), made.fault(0, other), made.fault(0, some.with_program(Program("t", keeps=False)))],
                             [None, (["t"], {"n": 0}), (["t"], {"n": 0})])
            self.assertEqual([made.fault(1), made.fault(1, other) is None], [None, False])

    def test_too_many_lists_again(self):
        turn = NumberMap([(None, -1, None)] + [(at, at, (at + 1) % 70) for at in range(70)] + [(70, None, None)])
        programs = [Program(name, {"x": Own("number", [(field, SAME)]), "y": Own("number", [(other, SAME), (field, SAME)])},
                            {field: Write("x", turn)}) for name, field, other in [("p", "a", "b"), ("q", "b", "a")]]
        world = World({"a": "number", "b": "number"}, programs)
        wishes = Wishes(world, [("safe", "p", "y"), ("safe", "p", "x")], Beginnings())
        for asked in (None, world, world.with_program(Program("r"))):
            for _ in range(2):
                self.assert_error(TooMany("lists", 3000), wishes.fault, 0, asked)
                self.assertEqual(wishes.fault(1, asked), (["p"], {"a": 0}))
        self.assertEqual(len(ListGraph(world, own_list(world, "p", "y"), ["p"])), 70)

    def test_what_is_shared(self):
        world = World({"n": "number"}, [Program("p"), Program("q", {}, {"n": None})])
        self.assertEqual(world.only("q").shared(), world.shared())
        self.assertNotEqual(anew(world).shared(), world.shared())
        self.assertEqual(world.world_key(), world.with_program(Program("p")).world_key())
        self.assertEqual(len({one.world_key() for one in (world, world.only("p"), world.with_program(Program("p", keeps=False)))}), 3)
        found = world
        for at in range(Shared.MOST_PROGRAMS):
            found = found.with_program(Program("p", {}, {"n": None}, keeps=at % 2 > 0))
        self.assertEqual(found.shared(), world.shared())
        for at in range(Shared.MOST_PROGRAMS):
            found = found.with_program(Program("p", {"x": Own("number", default=at)}))
            self.assertEqual(len(found.names()), len(found.world_key()[1]))
        self.assertNotEqual(found.shared(), world.shared())

    def test_program_keys(self):
        for seed in range(300):
            draw = random.Random(seed)
            fields = {"a": "number", "b": draw.choice(["number", "text"])}
            one, other = drawn_program(draw, "p", fields), drawn_program(draw, "p", fields)
            self.assertEqual(program_key(one) == program_key(other), one == other)
            same = Program("p", dict(reversed(one.own_fields().items())), one.writes(), keeps=one.keeps)
            self.assertEqual(program_key(one), program_key(same))

    def test_documents_stay_apart(self):
        world = drawn_world(random.Random(9))
        for seed in range(20):
            draw = random.Random(seed)
            documents = [drawn_document(draw, world) for _ in range(2)]
            found = [Reached(one, Beginnings(documents=documents)) for one in (world, anew(world))]
            self.assertEqual(found[0].presences(), found[1].presences())
            for presence in found[0].presences():
                for field in presence:
                    self.assertEqual(found[0].values_of(presence, field), found[1].values_of(presence, field))


if __name__ == "__main__":
    unittest.main()

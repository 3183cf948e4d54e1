"""Wishes: what shall hold in a world, and what shows that it does not hold."""

from keptedits.errors import InvalidChoice, InvalidWish, Unlike
from keptedits.graphs import ListGraph
from keptedits.harms import first_harm_here, least_change
from keptedits.lists import parting
from keptedits.putting import own_list
from keptedits.reached import Beginnings, Reached
from keptedits.seen import echo_here_in, echo_in, problem_here_in, problem_in
from keptedits.sets import is_number, is_set
from keptedits.sure import shown, way_showing, way_unlike, way_without
from keptedits.worlds import World


class Wishes:
    """Wishes of a world, with the beginnings from which documents come about; they never change."""

    MAX_WISHES = 12

    def __init__(self, world, wishes, beginnings):
        if not isinstance(wishes, (list, tuple)) or len(wishes) > self.MAX_WISHES:
            raise InvalidWish(-1)
        for position, wish in enumerate(wishes):
            if not is_wish(world, wish):
                raise InvalidWish(position)
        self._own_answers = Answers(world, world, beginnings)
        self._own_answers.reached()
        self._world = world
        self._beginnings = beginnings
        self._wishes = list(wishes)
        self._other_answers = None

    @property
    def world(self):
        """The world that has the wishes."""
        return self._world

    @property
    def beginnings(self):
        """The beginnings."""
        return self._beginnings

    def all_wishes(self):
        """Return the wishes."""
        return list(self._wishes)

    def fault(self, position, world=None):
        """Return the fault of a wish in this or another world, None if it holds there."""
        if not is_number(position) or not 0 <= position < len(self._wishes):
            raise InvalidChoice(position)
        return copied_fault(self._answers_in(world).fault_at(position, self._wishes[position]))

    def first_fault(self, world=None):
        """Return the tuple (position, fault) of the first wish that does not hold, None if all hold."""
        return self._first_fault(self._answers_in(world), list(range(len(self._wishes))))

    def first_fault_among(self, names):
        """Return the first fault, as above, of the wishes that name these programs only, in the world of only these."""
        world = self._world.only(*names)
        positions = [position for position, wish in enumerate(self._wishes) if is_wish(world, wish)]
        return self._first_fault(self._answers_in(world), positions)

    def _first_fault(self, answers, positions):
        for position in positions:
            found = answers.fault_at(position, self._wishes[position])
            if found is not None:
                return (position, copied_fault(found))
        return None

    def __len__(self):
        return len(self._wishes)

    def _answers_in(self, world):
        if world is None:
            return self._own_answers
        if not isinstance(world, World) or world.fields() != self._world.fields():
            raise Unlike()
        # One world is often asked for all wishes.
        if self._other_answers is None or self._other_answers.world_asked() != world:
            self._other_answers = self._made_answers(world)
        return self._other_answers

    def _made_answers(self, world):
        new = [name for name in self._beginnings.new if name in world]
        documents = self._beginnings.documents()
        beginnings = Beginnings(new=new, documents=documents, anything=self._beginnings.anything)
        return Answers(self._world, world, beginnings)


class Answers:
    """The faults of wishes in a world, beside an elder one."""

    def __init__(self, elder, world, beginnings):
        self._elder = elder
        self._world = world
        self._beginnings = beginnings
        self._reached = None
        self._graphs = {}
        self._faults = {}

    def world_asked(self):
        """Return the world in which the wishes are looked at."""
        return self._world

    def reached(self):
        """Return what comes about in the world."""
        # Many wishes are about all documents.
        if self._reached is None:
            self._reached = Reached(self._world, self._beginnings)
        return self._reached

    def fault_at(self, position, wish):
        """Return the fault of the wish at a position, None if it holds."""
        if position not in self._faults:
            self._faults[position] = self._found_fault(wish)
        return self._faults[position]

    def _found_fault(self, wish):
        if not is_wish(self._world, wish):
            return ()
        kind, parts = wish[0], wish[1:]
        if kind in ("safe", "safe here"):
            return self._harm(kind, parts)
        if kind in ("seen", "seen here", "kept", "kept here"):
            return self._loss(kind, parts)
        if kind == "sure":
            return way_without(self.reached(), parts[0], parts[1])
        if kind == "within":
            return self._exceeding(parts)
        if kind == "alike":
            return way_unlike(self.reached(), parts[0], parts[1], parts[2], parts[3])
        return self._change(parts)

    def _graph(self, name, own):
        # Several wishes often speak of one reader.
        asked = (name, own)
        if asked not in self._graphs:
            self._graphs[asked] = ListGraph(self._world, own_list(self._world, name, own))
        return self._graphs[asked]

    def _harm(self, kind, parts):
        graph = self._graph(parts[0], parts[1])
        if kind == "safe here":
            return first_harm_here(self.reached(), graph)
        if len(graph) == 1:
            return None
        return (graph.rows()[1], parting(graph.first, graph.lists()[1]))

    def _loss(self, kind, parts):
        """Return the row, and the document or presence, of a problem or echo, None if there is none."""
        writer, edited, name, own = parts
        graph = self._graph(name, own)
        if kind == "seen":
            found = problem_in(self._world, graph, writer, edited)
            return None if found is None else (found[1], found[2])
        if kind == "seen here":
            found = problem_here_in(self.reached(), graph, writer, edited)
            return None if found is None else (found[1], found[2])
        if kind == "kept":
            return echo_in(self._world, graph, writer, edited)
        return echo_here_in(self.reached(), graph, writer, edited)

    def _exceeding(self, parts):
        name, own, values = parts
        outside = shown(self.reached(), name, own).without(values)
        return None if outside.is_empty else way_showing(self.reached(), name, own, outside.least())

    def _change(self, parts):
        elder, later = own_list(self._elder, parts[0], parts[1]), own_list(self._world, parts[0], parts[1])
        return () if elder.kind != later.kind else least_change(elder, later)


def is_wish(world, wish):
    """Tell whether a value is a wish of a world."""
    if not isinstance(wish, tuple) or len(wish) < 3 or not isinstance(wish[0], str):
        return False
    kind, first = wish[0], own_or_none(world, wish[1], wish[2])
    if first is None:
        return False
    if kind in ("safe", "safe here", "sure", "as"):
        return len(wish) == 3
    if kind == "within":
        return len(wish) == 4 and is_set(wish[3], first.kind)
    if len(wish) != 5 or own_or_none(world, wish[3], wish[4]) is None:
        return False
    if kind in ("seen", "seen here"):
        return not first.settable.is_empty
    if kind in ("kept", "kept here"):
        return first.removable
    return kind == "alike" and own_or_none(world, wish[3], wish[4]).kind == first.kind


def copied_fault(value):
    """Return a copy of a fault, with new lists and dicts inside it, too."""
    if isinstance(value, (list, tuple)):
        found = [copied_fault(part) for part in value]
        return found if isinstance(value, list) else tuple(found)
    if isinstance(value, dict):
        return {one: copied_fault(value[one]) for one in value}
    return value


def own_or_none(world, name, own):
    """Return the own field of these names, None for any two values that name none."""
    if name not in world or not isinstance(own, str):
        return None
    return world.program(name).own_fields().get(own)

"""Wishes: what shall hold in a world, and what shows that it does not hold."""

from keptedits.errors import InvalidChoice, InvalidWish, Unlike
from keptedits.graphs import lists_of_own
from keptedits.harms import first_harm_here, least_change
from keptedits.here import Here
from keptedits.lists import parting
from keptedits.putting import own_list
from keptedits.reached import Beginnings, Reached, check_beginnings
from keptedits.seen import echo_here_in, echo_in, problem_here_in, problem_in
from keptedits.sets import is_number, is_set
from keptedits.sure import shown, way_showing, way_unlike, way_without
from keptedits.worlds import World


class Wishes:
    """Wishes of a world, with the beginnings from which documents come about; they never change."""

    MAX_WISHES = 12
    MOST_KNOWN = 300

    def __init__(self, world, wishes, beginnings):
        if not isinstance(wishes, (list, tuple)) or len(wishes) > self.MAX_WISHES:
            raise InvalidWish(-1)
        for position, wish in enumerate(wishes):
            if not is_wish(world, wish):
                raise InvalidWish(position)
        check_beginnings(world, beginnings)
        self._world = world
        self._beginnings = beginnings
        self._wishes = list(wishes)
        self._answers = None
        self._known_faults = {}

    @property
    def world(self):
        """The world that has the wishes."""
        return self._world

    @property
    def beginnings(self):
        """The beginnings."""
        return self._beginnings

    def all_wishes(self):
        """Return the wishes."""
        return list(self._wishes)

    def fault(self, position, world=None):
        """Return the fault of a wish in this or another world, None if it holds there."""
        if not is_number(position) or not 0 <= position < len(self._wishes):
            raise InvalidChoice(position)
        return copied_fault(self._answers_in(world).fault_at(position, self._wishes[position]))

    def first_fault(self, world=None):
        """Return the tuple (position, fault) of the first wish that does not hold, None if all hold."""
        return self._first_fault(self._answers_in(world), list(range(len(self._wishes))))

    def first_fault_among(self, names):
        """Return the first fault, as above, of the wishes that name these programs only, in the world of only these."""
        world = self._world.only(*names)
        positions = [position for position, wish in enumerate(self._wishes) if is_wish(world, wish)]
        return self._first_fault(self._answers_in(world), positions)

    def _first_fault(self, answers, positions):
        for position in positions:
            found = answers.fault_at(position, self._wishes[position])
            if found is not None:
                return (position, copied_fault(found))
        return None

    def __len__(self):
        return len(self._wishes)

    def _answers_in(self, world):
        asked = self._world if world is None else world
        if not isinstance(asked, World) or not self._world.has_fields_of(asked):
            raise Unlike()
        # One world is often asked for all wishes.
        key = asked.world_key()
        if self._answers is None or self._answers.key_asked() != key:
            if len(self._known_faults) >= self.MOST_KNOWN:
                self._known_faults = {}
            faults = self._known_faults.setdefault(key, {})
            self._answers = Answers(self._world, asked, self._beginnings_in(asked), faults)
        return self._answers

    def _beginnings_in(self, world):
        if all([name in world for name in self._beginnings.new]):
            return self._beginnings
        new = [name for name in self._beginnings.new if name in world]
        return Beginnings(new=new, documents=self._beginnings.documents(), anything=self._beginnings.anything)


class Answers:
    """The faults of wishes in a world, beside an elder one; those that are known are told by their positions."""

    def __init__(self, elder, world, beginnings, faults):
        self._elder = elder
        self._world = world
        self._beginnings = beginnings
        self._reached = None
        self._here = None
        self._lists = {}
        self._faults = faults

    def key_asked(self):
        """Return the key of the world in which the wishes are looked at."""
        return self._world.world_key()

    def reached(self):
        """Return what comes about in the world."""
        # Many wishes are about all documents.
        if self._reached is None:
            self._reached = Reached(self._world, self._beginnings)
        return self._reached

    def here(self):
        """Return what lists tell at the presences that come about in the world."""
        if self._here is None:
            self._here = Here(self.reached())
        return self._here

    def fault_at(self, position, wish):
        """Return the fault of the wish at a position, None if it holds."""
        if position not in self._faults:
            self._faults[position] = self._found_fault(wish)
        return self._faults[position]

    def _found_fault(self, wish):
        if not is_wish(self._world, wish):
            return ()
        kind, parts = wish[0], wish[1:]
        if kind in ("safe", "safe here"):
            return self._harm(kind, parts)
        if kind in ("seen", "seen here", "kept", "kept here"):
            return self._loss(kind, parts)
        if kind == "sure":
            return way_without(self.reached(), parts[0], parts[1])
        if kind == "within":
            return self._exceeding(parts)
        if kind == "alike":
            return way_unlike(self.reached(), parts[0], parts[1], parts[2], parts[3])
        return self._change(parts)

    def _lists_read(self, name, own):
        # Several wishes often speak of one reader.
        asked = (name, own)
        if asked not in self._lists:
            self._lists[asked] = lists_of_own(self._world, name, own)
        return self._lists[asked]

    def _harm(self, kind, parts):
        lists = self._lists_read(parts[0], parts[1])
        if kind == "safe here":
            return first_harm_here(self.here(), lists)
        if lists.many() == 1:
            return None
        row, behind = lists.second_list()
        return (row, parting(lists.first_list(), behind))

    def _loss(self, kind, parts):
        """Return the row, and the document or presence, of a problem or echo, None if there is none."""
        writer, edited, name, own = parts
        lists = self._lists_read(name, own)
        if kind == "seen":
            found = problem_in(lists, writer, edited)
            return None if found is None else (found[1], found[2])
        if kind == "seen here":
            found = problem_here_in(self.here(), lists, writer, edited)
            return None if found is None else (found[1], found[2])
        if kind == "kept":
            return echo_in(self._world, lists, writer, edited)
        return echo_here_in(self._world, self.here(), lists, writer, edited)

    def _exceeding(self, parts):
        name, own, values = parts
        outside = shown(self.reached(), name, own).without(values)
        return None if outside.is_empty else way_showing(self.reached(), name, own, outside.least())

    def _change(self, parts):
        elder, later = own_list(self._elder, parts[0], parts[1]), own_list(self._world, parts[0], parts[1])
        return () if elder.kind != later.kind else least_change(elder, later)


def is_wish(world, wish):
    """Tell whether a value is a wish of a world."""
    if not isinstance(wish, tuple) or len(wish) < 3 or not isinstance(wish[0], str):
        return False
    kind, first = wish[0], world.own_or_none(wish[1], wish[2])
    if first is None:
        return False
    if kind in ("safe", "safe here", "sure", "as"):
        return len(wish) == 3
    if kind == "within":
        return len(wish) == 4 and is_set(wish[3], first.kind)
    other = world.own_or_none(wish[3], wish[4]) if len(wish) == 5 else None
    if other is None:
        return False
    if kind in ("seen", "seen here"):
        return not first.settable.is_empty
    if kind in ("kept", "kept here"):
        return first.removable
    return kind == "alike" and other.kind == first.kind


def copied_fault(value):
    """Return a copy of a fault, with new lists and dicts inside it, too."""
    if isinstance(value, tuple):
        return tuple([copied_fault(part) if isinstance(part, (tuple, list, dict)) else part for part in value])
    if isinstance(value, list):
        return [copied_fault(part) if isinstance(part, tuple) else part for part in value]
    # Only lists of steps contain dicts within tuples.
    return dict(value) if isinstance(value, dict) else value

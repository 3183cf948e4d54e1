"""Peaceful edits: whether two edits, made beside each other, disturb each other when the copies are joined."""

from keptedits.copies import Copy, copy_behind
from keptedits.errors import InvalidValue, NotSettable
from keptedits.joins import Join, kinds_of_readings
from keptedits.maps import constant_map_to, same_map, values_apart
from keptedits.sets import full_set
from keptedits.sure import parts_by_size
from keptedits.tables import MapTable

FIRST = "1"
SECOND = "2"


class Term:
    """Where a value comes from: a variable, taken by the map of a number, and the number of its hand, 0 for none.

    The variable is a field of the root, FIRST or SECOND for a set value, or None, where the map is a constant one.
    """

    def __init__(self, variable, map_number, hand):
        self.variable = variable
        self.map_number = map_number
        self.hand = hand



def disturbance(world, name, first, own, second, other):
    """Return a root and two set values at which two edits are not peaceful under a program, None if they are."""
    edits = _checked_edits(world, name, first, own, second, other)
    return Peace(world, name, edits).disturbance()


def disturbs(world, name, first, own, value, second, other, other_value, root):
    """Tell whether two edits are not peaceful under a program at a root and two set values."""
    edits = _checked_edits(world, name, first, own, second, other)
    values = [value, other_value]
    for edit, given in zip(edits, values):
        if given not in edit[2].settable:
            raise InvalidValue(given)
    start = Copy(world, root)
    copies = []
    for place, (writer, edited, _) in enumerate(edits):
        copies.append(copy_behind(start, world.program(writer), {edited: values[place]}, {edited: place + 1}))
    join = Join(world, name, copies)
    return len(join.split_readings()) > 0 or len(join.mixed()) > 0 or len(join.unseen()) > 0


class Peace:
    """Two edits, looked at for all roots: which fields are present decides from where all values come."""

    def __init__(self, world, name, edits):
        self._world = world
        self._name = name
        self._both_edits = edits
        self._maps = MapTable()
        self._same = {kind: self._maps.number_of(same_map(kind)) for kind in ("number", "text")}
        self._programs = {program.name: Reader(program, self._maps) for program in world.programs()}
        self._readings = list(kinds_of_readings(world, world.program(name)))

    def disturbance(self):
        """Return a root and two set values at which the edits are not peaceful, None if they are."""
        sources = {}
        for program in self._world.programs():
            for told in program.own_fields().values():
                for field, _ in told.sources:
                    sources[field] = True
        # Fields that nobody reads disturb nothing, whether they are present or not.
        for presence in parts_by_size(sorted(sources)):
            found = self._disturbed_at(presence)
            if found is not None:
                return self._shown_by(presence, found)
        return None

    def _disturbed_at(self, presence):
        """Return the values of some variables that show a disturbance where just these fields are present, or None."""
        kinds = self._world.fields()
        root = {field: Term(field, self._same[kinds[field]], 0) for field in presence}
        copies = []
        for place, (writer, own, told) in enumerate(self._both_edits):
            given = {own: Term((FIRST, SECOND)[place], self._same[told.kind], place + 1)}
            copies.append(self._programs[writer].behind(root, given, kinds))
        shown = {reading: [self._read(reading, copy) for copy in copies] for reading in self._readings}
        sides = {reading: [term for term in shown[reading] if has_hand(term)] for reading in shown}
        for terms in sides.values():
            found = self._apart(terms[0], terms[1]) if len(terms) == 2 else None
            if found is not None:
                return found
        for place in (0, 1):
            if not any([reading[0] != "" and has_hand(shown[reading][place]) for reading in shown]):
                return {}
        return self._mixed(root, sides, kinds)

    def _read(self, reading, document):
        """Return the term of a reading, None for nothing."""
        if reading[0] == "":
            return document.get(reading[1])
        return self._programs[reading[0]].read(reading[1], document)

    def _mixed(self, root, sides, kinds):
        """Return the values at which something is mixed where nothing is split, None if there are none."""
        given = {reading[1]: sides[reading][0] for reading in sides if reading[0] == self._name and sides[reading]}
        joined = self._programs[self._name].behind(root, given, kinds)
        for reading, terms in sides.items():
            if reading[0] == "" and terms:
                joined[reading[1]] = terms[0]
        for reading, terms in sides.items():
            if reading[0] != "":
                due = terms[0] if terms else self._read(reading, root)
                found = self._apart(self._read(reading, joined), due)
                if found is not None:
                    return found
        return None

    def _apart(self, one, other):
        """Return the values of variables at which two terms, None for nothing, differ; None if there are none."""
        if one is None or other is None:
            return None if one is None and other is None else {}
        here, there = self._maps.map_at(one.map_number), self._maps.map_at(other.map_number)
        if one.variable is not None and other.variable is not None and one.variable != other.variable:
            values = values_apart(here, self._domain(one.variable), there, self._domain(other.variable))
            return None if values is None else {one.variable: values[0], other.variable: values[1]}
        variable = other.variable if one.variable is None else one.variable
        value = here.apart(there, None if variable is None else self._domain(variable))
        return None if value is None else {variable: value}

    def _domain(self, variable):
        """Return the set of the values that a variable can have."""
        if variable in (FIRST, SECOND):
            return self._both_edits[0 if variable == FIRST else 1][2].settable
        return full_set(self._world.kind_of_field(variable))

    def _shown_by(self, presence, values):
        root = {field: values.get(field, self._domain(field).least()) for field in presence}
        return (root, values.get(FIRST, self._domain(FIRST).least()), values.get(SECOND, self._domain(SECOND).least()))


class Reader:
    """A program, as it reads and writes documents of terms."""

    def __init__(self, program, maps):
        self._program = program
        self._maps = maps
        self._own_fields = program.own_fields()
        self._writes = program.writes()

    def read(self, own, document):
        """Return the term of an own field, None for nothing."""
        told = self._own_fields[own]
        for field, mapping in told.sources:
            if field in document:
                return self._taken(document[field], mapping)
        if told.default is None:
            return None
        return Term(None, self._maps.number_of(constant_map_to(told.kind, told.default)), 0)

    def behind(self, document, given, fields):
        """Return the document behind a pass in which some own fields are given terms."""
        worth = {own: given[own] if own in given else self.read(own, document) for own in self._own_fields}
        found = {}
        for field in fields:
            term = self._term_written(field, document.get(field), worth)
            if term is not None:
                found[field] = term
        return found

    def _term_written(self, field, was, worth):
        if field not in self._writes:
            return was if self._program.keeps else None
        write = self._writes[field]
        if write is None:
            return None
        if worth[write.own] is None:
            return was if write.leaves else None
        return self._taken(worth[write.own], write.mapping)

    def _taken(self, term, mapping):
        return Term(term.variable, self._maps.followed(term.map_number, self._maps.number_of(mapping)), term.hand)


def has_hand(term):
    """Tell whether a term, None for nothing, comes from an edit."""
    return term is not None and term.hand > 0


def _checked_edits(world, name, first, own, second, other):
    """Return the tuples (program, own field, what it is) of both edits, behind their checks."""
    world.program(name)
    found = []
    for writer, edited in ((first, own), (second, other)):
        told = world.program(writer).own_field(edited)
        if told.settable.is_empty:
            raise NotSettable(edited)
        found.append((writer, edited, told))
    return found

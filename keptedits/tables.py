"""Maps and source lists in a short form, for putting lists back many times before the passes of one world."""

from keptedits.lists import SourceList, normal_entries
from keptedits.maps import same_map


class MapTable:
    """Maps of one kind, each with a number; two of them are put one behind the other just once."""

    def __init__(self):
        self._maps = []
        self._constants = []
        self._numbers = {}
        self._composed = {}

    def number_of(self, mapping):
        """Return the number of a map."""
        told = mapping.parts()
        if told not in self._numbers:
            self._numbers[told] = len(self._maps)
            self._maps.append(mapping)
            self._constants.append(mapping.constant())
        return self._numbers[told]

    def map_at(self, number):
        """Return the map of a number."""
        return self._maps[number]

    def constant_at(self, number):
        """Return the one value to which the map of a number takes all values, None if there is none."""
        return self._constants[number]

    def followed(self, one, other):
        """Return the number of the map of one number, then that of the other."""
        pair = (one, other)
        if pair not in self._composed:
            self._composed[pair] = self.number_of(self._maps[one].then(self._maps[other]))
        return self._composed[pair]


class ListTable:
    """Normal lists of one kind, in a short form: a tuple (tuple of (field, number of a map), end)."""

    def __init__(self, world, kind):
        self._world = world
        self._list_kind = kind
        self._maps = MapTable()
        self._same = self._maps.number_of(same_map(kind))
        self._lists_behind = {}
        self._lists_before = {}

    def short(self, told):
        """Return the short form of a source list."""
        return (tuple([(field, self._maps.number_of(mapping)) for field, mapping in told.entries]), told.end)

    def list_of(self, short):
        """Return the source list of a short form."""
        return SourceList(self._list_kind, [(field, self._maps.map_at(number)) for field, number in short[0]], short[1])

    def behind(self, name, field):
        """Return the list of the value of a field behind a pass."""
        asked = (name, field)
        if asked not in self._lists_behind:
            self._lists_behind[asked] = self._list_behind(self._world.program(name), field)
        return self._lists_behind[asked]

    def before(self, name, short):
        """Return a list put back before a pass."""
        asked = (name, short)
        if asked not in self._lists_before:
            self._lists_before[asked] = self._put_through(name, short)
        return self._lists_before[asked]

    def over(self, row, short):
        """Return a list put back over a row, before its last pass first."""
        found = short
        for name in reversed(row):
            found = self.before(name, found)
        return found

    def _put_through(self, name, short):
        found, seen = [], {}
        for field, number in short[0]:
            sources, end = self.behind(name, field)
            for source, behind in sources:
                if source not in seen:
                    seen[source] = True
                    found.append((source, self._maps.followed(behind, number)))
            if end is not None:
                # Behind the pass this field is always present, so no later entry decides.
                return self._normal(found, self._maps.map_at(number).at(end))
        return self._normal(found, short[1])

    def _normal(self, entries, end):
        constants = [self._maps.constant_at(number) for _, number in entries]
        return (tuple(normal_entries(entries, constants, end)), end)

    def _list_behind(self, program, field):
        writes = program.writes()
        if field not in writes:
            return (((field, self._same),), None) if program.keeps else ((), None)
        write = writes[field]
        if write is None:
            return ((), None)
        return self._list_written(program.own_field(write.own), write, field)

    def _list_written(self, own, write, field):
        """Return the list of what a program writes into a field."""
        last = self._maps.number_of(write.mapping)
        entries = [(source, self._maps.followed(self._maps.number_of(one), last)) for source, one in own.sources]
        end = None if own.default is None else write.mapping.at(own.default)
        if write.leaves and end is None and field not in [source for source, _ in entries]:
            entries.append((field, self._same))
        return self._normal(entries, end)


def list_key(told):
    """Return a tuple that tells source lists of one kind apart."""
    return (tuple([(field, mapping.parts()) for field, mapping in told.entries]), told.end)

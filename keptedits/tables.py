"""Maps and source lists in a short form, for putting lists back many times before the passes of one world."""

from keptedits.cells import cells_for
from keptedits.errors import TooMany
from keptedits.lists import normal_entries, normal_list

MOST_LISTS = 3000


class MapTable:
    """Maps, each with a number; two of them are put one behind the other just once."""

    def __init__(self):
        self._maps = []
        self._numbers = {}
        self._composed = {}

    def number_of(self, mapping):
        """Return the number of a map."""
        told = mapping.parts()
        if told not in self._numbers:
            self._numbers[told] = len(self._maps)
            self._maps.append(mapping)
        return self._numbers[told]

    def map_at(self, number):
        """Return the map of a number."""
        return self._maps[number]

    def followed(self, one, other):
        """Return the number of the map of one number, then that of the other."""
        pair = (one, other)
        if pair not in self._composed:
            self._composed[pair] = self.number_of(self._maps[one].then(self._maps[other]))
        return self._composed[pair]


class ListTable:
    """Normal lists of one kind, in a short form: a tuple (tuple of (field, number of a map), end).

    Maps are kept as the tuples of places of their cells, which are quickly put one behind the other.
    """

    def __init__(self, world, kind, lists=()):
        self._world = world
        self._list_kind = kind
        self._cells = cells_for(world, kind, lists)
        self._takings = []
        self._constants = []
        self._numbers = {}
        self._maps = {}
        self._composed = {}
        self._same = self._number_of(tuple(range(self._cells.count_cells())))
        self._lists_behind = {}
        self._lists_before = {}
        self._lists = {}

    @property
    def kind(self):
        """The kind of the lists."""
        return self._list_kind

    def known_short(self, told):
        """Return the short form of a source list, None if the table has no number for one of its maps."""
        found = []
        for field, mapping in told.entries:
            found = found + [(field, self._numbers.get(self._cells.places_taken(mapping)))]
        if None in [number for _, number in found]:
            return None
        return (tuple(found), told.end)

    def short(self, told):
        """Return the short form of a source list, None if the cells of the table do not suffice to tell it."""
        found = []
        for field, mapping in told.entries:
            number = self.number_of_map(mapping)
            if number is None:
                return None
            found.append((field, number))
        return None if self._is_strange(told.end) else (tuple(found), told.end)

    def list_of(self, short):
        """Return the source list of a short form."""
        if short not in self._lists:
            entries = [(field, self.map_at(number)) for field, number in short[0]]
            self._lists[short] = normal_list(self._list_kind, entries, short[1])
        return self._lists[short]

    def number_of_map(self, mapping):
        """Return the number of a map, None if the cells of the table do not suffice to tell it."""
        taking = self._cells.places_taken(mapping)
        return None if taking is None else self._number_of(taking)

    def map_at(self, number):
        """Return the map of a number."""
        if number not in self._maps:
            self._maps[number] = self._cells.map_of(self._takings[number])
        return self._maps[number]

    def value_taken(self, number, value):
        """Return the value to which the map of a number takes a value of the table."""
        return self._cells.value_at(self._takings[number][self._cells.place_of(value)])

    def followed(self, one, other):
        """Return the number of the map of one number, then that of the other."""
        pair = (one, other)
        if pair not in self._composed:
            behind = self._takings[other]
            self._composed[pair] = self._number_of(tuple([behind[place] for place in self._takings[one]]))
        return self._composed[pair]

    def normal(self, entries, end):
        """Return the short form of a list with some entries and an end."""
        constants = [self._constants[number] for _, number in entries]
        return (tuple(normal_entries(entries, constants, end)), end)

    def behind(self, name, field):
        """Return the list of the value of a field behind a pass."""
        asked = (name, field)
        if asked not in self._lists_behind:
            self._lists_behind[asked] = self._list_behind(self._world.program(name), field)
        return self._lists_behind[asked]

    def before(self, name, short):
        """Return a list put back before a pass."""
        asked = (name, short)
        if asked not in self._lists_before:
            self._lists_before[asked] = self._put_through(name, short)
        return self._lists_before[asked]

    def over(self, row, short):
        """Return a list put back over a row, before its last pass first."""
        found = short
        for name in reversed(row):
            found = self.before(name, found)
        return found

    def rows_of_lists(self, names, start):
        """Return the dict from all lists that come from one to their rows, in the sequence of the rows."""
        found = {start: ()}
        level = [start]
        while level:
            further = []
            # Names, then lists by their rows, both ascending: so the first row of a list is the first in sorted order.
            for name in names:
                for short in list(level):
                    back = self._put_through(name, short)
                    if back not in found:
                        if len(found) == MOST_LISTS:
                            raise TooMany("lists", MOST_LISTS)
                        found[back] = (name,) + found[short]
                        further.append(back)
            level = further
        return found

    def put_entry_back(self, name, entry, found, seen):
        """Add what an entry becomes to entries with other fields; return the end that it brings, or None."""
        sources, end = self.behind(name, entry[0])
        for source, number in sources:
            if source not in seen:
                seen[source] = True
                found.append((source, self.followed(number, entry[1])))
        return None if end is None else self.value_taken(entry[1], end)

    def _put_through(self, name, short):
        found, seen = [], {}
        for entry in short[0]:
            end = self.put_entry_back(name, entry, found, seen)
            if end is not None:
                # Behind the pass this field is always present, so no later entry decides.
                return self.normal(found, end)
        return self.normal(found, short[1])

    def _number_of(self, taking):
        if taking not in self._numbers:
            self._numbers[taking] = len(self._takings)
            self._takings.append(taking)
            is_constant = taking.count(taking[0]) == len(taking)
            self._constants.append(self._cells.value_at(taking[0]) if is_constant else None)
        return self._numbers[taking]

    def _is_strange(self, end):
        return end is not None and self._cells.place_of(end) is None

    def _list_behind(self, program, field):
        writes = program.writes()
        if field not in writes:
            return (((field, self._same),), None) if program.keeps else ((), None)
        write = writes[field]
        if write is None:
            return ((), None)
        return self._list_written(program.own_field(write.own), write, field)

    def _list_written(self, own, write, field):
        """Return the list of what a program writes into a field."""
        last = self.number_of_map(write.mapping)
        entries = [(source, self.followed(self.number_of_map(one), last)) for source, one in own.sources]
        end = None if own.default is None else self.value_taken(last, own.default)
        if write.leaves and end is None and field not in [source for source, _ in entries]:
            entries.append((field, self._same))
        return self.normal(entries, end)


def table_for(world, told):
    """Return a table of a world that can tell a source list, and the short form of this list in it."""
    table = world.list_table(told.kind)
    short = table.short(told)
    if short is None:
        table = ListTable(world, told.kind, [told])
        short = table.short(told)
    return table, short

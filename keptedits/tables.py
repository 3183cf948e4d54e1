"""Tables: source lists that are put back many times before the passes of a world, by their numbers."""

from keptedits.cellmaps import CellMaps
from keptedits.cells import cuts_of_entries, cuts_of_program
from keptedits.editing import EditedPass
from keptedits.errors import TooMany

MOST_LISTS = 3000

# How many lists, and how many list graphs, are kept before others take their place.
MOST_KEPT = 20000
MOST_GRAPHS = 300


class MapTable:
    """Maps, each with a number; two of them are put one behind the other just once."""

    def __init__(self):
        self._maps = []
        self._numbers = {}
        self._composed = {}

    def number_of(self, mapping):
        """Return the number of a map."""
        told = mapping.parts()
        if told not in self._numbers:
            self._numbers[told] = len(self._maps)
            self._maps.append(mapping)
        return self._numbers[told]

    def map_at(self, number):
        """Return the map of a number."""
        return self._maps[number]

    def followed(self, one, other):
        """Return the number of the map of one number, then that of the other."""
        pair = (one, other)
        if pair not in self._composed:
            self._composed[pair] = self.number_of(self._maps[one].then(self._maps[other]))
        return self._composed[pair]


class PassLists:
    """The pass of a program, before which lists of one kind are put back; what was found once is kept."""

    def __init__(self, program, maps):
        self._program = program
        self._writes = program.writes()
        self._cell_maps = maps
        self._own_lists = {}
        self._lists_behind = {}
        self._told_behind = {}
        self._lists_before = {}

    def own_number(self, own):
        """Return the number of the list of an own field."""
        if own not in self._own_lists:
            told = self._program.own_field(own)
            entries = tuple([(field, self._cell_maps.number_of_map(mapping)) for field, mapping in told.sources])
            self._own_lists[own] = self._cell_maps.number_of_entries(entries, told.default)
        return self._own_lists[own]

    def behind(self, field):
        """Return the number of the list of the value of a field behind the pass."""
        if field not in self._lists_behind:
            entries, end = self._list_behind(field)
            self._lists_behind[field] = self._cell_maps.number_of_entries(entries, end)
        return self._lists_behind[field]

    def put_entry_back(self, entry, found):
        """Add what an entry becomes to a dict from fields to maps; return the end that it brings, or None."""
        field, last = entry
        if field not in self._told_behind:
            self._told_behind[field] = self._cell_maps.list_told(self.behind(field))
        sources, end = self._told_behind[field]
        for source, one in sources:
            if source not in found:
                found[source] = self._cell_maps.followed(one, last)
        return None if end is None else self._cell_maps.value_taken(last, end)

    def before(self, number):
        """Return the number of the list of a number, put back before the pass."""
        found = self._lists_before.get(number)
        if found is None:
            entries, end = self._put_back(number)
            found = self._cell_maps.number_of_entries(entries, end)
            self._lists_before[number] = found
        return found

    def all_before(self, numbers):
        """Return the numbers of the lists of some numbers, put back before the pass."""
        known = self._lists_before
        return [known[number] if number in known else self.before(number) for number in numbers]

    def _put_back(self, number):
        entries, end = self._cell_maps.list_told(number)
        found = {}
        for entry in entries:
            brought = self.put_entry_back(entry, found)
            if brought is not None:
                # Behind the pass this field is always present, so no later entry decides.
                return (tuple(found.items()), brought)
        return (tuple(found.items()), end)

    def _list_behind(self, field):
        """Return the entries and the end of the value of a field behind the pass."""
        if field not in self._writes:
            return (((field, self._cell_maps.same_number),) if self._program.keeps else (), None)
        write = self._writes[field]
        return ((), None) if write is None else self._list_written(write, field)

    def _list_written(self, write, field):
        maps, own = self._cell_maps, self._program.own_field(write.own)
        last = maps.number_of_map(write.mapping)
        entries = [(source, maps.followed(maps.number_of_map(one), last)) for source, one in own.sources]
        end = None if own.default is None else maps.value_taken(last, own.default)
        if write.leaves and end is None and field not in [source for source, _ in entries]:
            entries.append((field, maps.same_number))
        return (tuple(entries), end)


class ListStock:
    """Maps and lists of one kind, and the passes of programs, each with a number, that worlds have in common."""

    def __init__(self, kind, cuts):
        self.maps = CellMaps(kind, cuts)
        self._programs = {}
        self._passes = {}
        self._edited_passes = {}

    def is_full(self):
        """Tell whether so many lists are kept that another stock should take the place of this one."""
        return self.maps.count_lists() > MOST_KEPT

    def takes(self, number, program, cuts):
        """Take a program with its number and the cuts that tell it, if the cells suffice; tell whether they do."""
        if number not in self._passes:
            if not self.maps.has_cuts(cuts):
                return False
            self._programs[number] = program
            self._passes[number] = PassLists(program, self.maps)
        return True

    def pass_at(self, number):
        """Return the pass of the program of a number."""
        return self._passes[number]

    def edited_pass(self, number, own):
        """Return the pass of the program of a number in which an own field is edited."""
        asked = (number, own)
        if asked not in self._edited_passes:
            made = EditedPass(self._programs[number], own, self._passes[number], self.maps)
            self._edited_passes[asked] = made
        return self._edited_passes[asked]


class ListTable:
    """The passes of a world, before which lists of one kind are put back."""

    def __init__(self, stock, numbers):
        self._list_kind = stock.maps.kind
        self._stock = stock
        self._program_numbers = numbers
        self._passes = {name: stock.pass_at(number) for name, number in numbers.items()}
        self._graphs = {}

    @property
    def kind(self):
        """The kind of the lists."""
        return self._list_kind

    def is_full(self):
        """Tell whether so many lists are kept that another table should take the place of this one."""
        return self._stock.is_full()

    def map_at(self, number):
        """Return the map of a number."""
        return self._stock.maps.map_at(number)

    def list_of(self, number):
        """Return the source list of a number."""
        return self._stock.maps.list_of(number)

    def number_of_list(self, told):
        """Return the number of a source list, None if the table cannot tell it."""
        return self._stock.maps.number_of_list(told)

    def known_number(self, told):
        """Return the number of a source list, None if it has none yet."""
        return self._stock.maps.known_number(told)

    def pass_of(self, name):
        """Return the pass of a program."""
        return self._passes[name]

    def edited_pass(self, name, own):
        """Return the pass of a program in which an own field is edited."""
        return self._stock.edited_pass(self._program_numbers[name], own)

    def over(self, row, number):
        """Return the number of a list put back over a row, before its last pass first."""
        found = number
        for name in reversed(row):
            found = self._passes[name].before(found)
        return found

    def rows_of_lists(self, names, start):
        """Return the dict from all lists that come from one to their rows, in the sequence of the rows."""
        asked = (names, start)
        if asked not in self._graphs:
            if len(self._graphs) == MOST_GRAPHS:
                self._graphs = {}
            self._graphs[asked] = self._found_rows(names, start)
        if self._graphs[asked] is None:
            raise TooMany("lists", MOST_LISTS)
        return self._graphs[asked]

    def _found_rows(self, names, start):
        """Return the rows of all lists that come from one, None if there are too many."""
        found = {start: ()}
        level = [start]
        while level:
            further = []
            # Names, then lists by their rows, both ascending: so the first row of a list is the first in sorted order.
            for name in names:
                backs = self.pass_of(name).all_before(level)
                for number, back in zip(list(level), backs):
                    if back not in found:
                        if len(found) == MOST_LISTS:
                            return None
                        found[back] = (name,) + found[number]
                        further.append(back)
            level = further
        return found


def table_for(world, first):
    """Return a table of a world that can tell a source list, and the number of this list in it."""
    table = world.list_table(first.kind)
    number = table.number_of_list(first)
    if number is None:
        table = table_with(world, first.kind, [first])
        number = table.number_of_list(first)
    return table, number


def table_telling(world, kind, lists):
    """Return a table of a world that can tell some source lists."""
    table = world.list_table(kind)
    return table_with(world, kind, lists) if None in [table.number_of_list(told) for told in lists] else table


def table_with(world, kind, lists):
    """Return another table of a world that can tell some source lists."""
    programs = dict(enumerate(world.programs()))
    cuts = {number: cuts_of_program(program, kind) for number, program in programs.items()}
    needed = [cut for some in cuts.values() for cut in some]
    stock = ListStock(kind, needed + [cut for told in lists for cut in cuts_of_entries(told.entries, told.end)])
    for number, program in programs.items():
        stock.takes(number, program, cuts[number])
    return ListTable(stock, {program.name: number for number, program in programs.items()})

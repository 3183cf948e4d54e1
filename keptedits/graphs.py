"""List graphs: all lists that come from one by putting it back over rows of any length."""

from keptedits.checks import check_row
from keptedits.errors import TooMany, UnknownList
from keptedits.lists import SourceList, parting
from keptedits.putting import check_list, field_list
from keptedits.tables import ListTable, list_key

MOST_LISTS = 3000


class ListGraph:
    """All normal lists that come from a list by putting it back before passes of some programs; it never changes."""

    def __init__(self, world, first, programs=None):
        check_list(world, first)
        self._first = first
        self._under = names_under(world, programs)
        table = ListTable(world, first.kind)
        found = _rows_of_lists(table, self._under, table.short(first))
        self._rows = [list(row) for row in found.values()]
        self._lists = [table.list_of(short) for short in found]
        self._places = {list_key(told): place for place, told in enumerate(self._lists)}

    @property
    def first(self):
        """The list from which all others come."""
        return self._first

    @property
    def under(self):
        """The sorted tuple of the different names of the programs."""
        return self._under

    def lists(self):
        """Return all lists, by their rows."""
        return list(self._lists)

    def rows(self):
        """Return the rows of the lists, by length, then in sorted order."""
        return [list(row) for row in self._rows]

    def row_to(self, value):
        """Return the row of a list."""
        if value not in self:
            raise UnknownList(value)
        return list(self._rows[self._places[list_key(value)]])

    def walk(self):
        """Yield the tuples (row, list), by the rows."""
        for place, row in enumerate(self._rows):
            yield (list(row), self._lists[place])

    @staticmethod
    def is_before(one, other):
        """Tell whether one row comes before another one: by length, then in sorted order."""
        return (len(one), list(one)) < (len(other), list(other))

    def __len__(self):
        return len(self._lists)

    def __contains__(self, value):
        if not isinstance(value, SourceList) or value.kind != self._first.kind:
            return False
        return list_key(value) in self._places


def names_under(world, programs):
    """Return the sorted tuple of the different names of a list of programs, of all if it is None."""
    if programs is None:
        return tuple(sorted(world.names()))
    check_row(world, programs)
    return tuple(sorted(set(programs)))


def alike(world, one, other):
    """Tell whether two rows make the same of every document."""
    check_row(world, one)
    check_row(world, other)
    return _first_apart(world, one, other) is None


def parting_rows(world, one, other):
    """Return the first field whose values differ behind two rows, with the least such document, None if none does."""
    check_row(world, one)
    check_row(world, other)
    return _first_apart(world, one, other)


def _first_apart(world, one, other):
    tables = {kind: ListTable(world, kind) for kind in ("number", "text")}
    for field, kind in world.fields().items():
        table = tables[kind]
        start = table.short(field_list(world, field))
        here, there = table.over(one, start), table.over(other, start)
        if here != there:
            return (field, parting(table.list_of(here), table.list_of(there)))
    return None


def _rows_of_lists(table, names, start):
    """Return the dict from all lists, in their short form, to their rows, in the sequence of the rows."""
    found = {start: ()}
    level = [start]
    while level:
        further = []
        # Names, then lists by their rows, both ascending: so the first row of a list is the first in sorted order.
        for name in names:
            for short in level:
                back = table.before(name, short)
                if back not in found:
                    if len(found) == MOST_LISTS:
                        raise TooMany("lists", MOST_LISTS)
                    found[back] = (name,) + found[short]
                    further.append(back)
        level = further
    return found

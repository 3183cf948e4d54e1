"""List graphs: all lists that come from one by putting it back over rows of any length."""

from keptedits.checks import check_row
from keptedits.errors import UnknownList
from keptedits.lists import SourceList, parting
from keptedits.putting import check_list, field_list
from keptedits.tables import table_for


class ListGraph:
    """All normal lists that come from a list by putting it back before passes of some programs; it never changes."""

    def __init__(self, world, first, programs=None):
        check_list(world, first)
        self._first = first
        self._under = names_under(world, programs)
        self._table, short = table_for(world, first)
        self._found = self._table.rows_of_lists(self._under, short)

    @property
    def first(self):
        """The list from which all others come."""
        return self._first

    @property
    def under(self):
        """The sorted tuple of the different names of the programs."""
        return self._under

    def lists(self):
        """Return all lists, by their rows."""
        return [self._table.list_of(short) for short in self._found]

    def rows(self):
        """Return the rows of the lists, by length, then in sorted order."""
        return [list(row) for row in self._found.values()]

    def row_to(self, value):
        """Return the row of a list."""
        if value not in self:
            raise UnknownList(value)
        return list(self._found[self._table.known_short(value)])

    def walk(self):
        """Yield the tuples (row, list), by the rows."""
        for short, row in self._found.items():
            yield (list(row), self._table.list_of(short))

    def table(self):
        """Return the table that tells the lists."""
        return self._table

    def shorts(self):
        """Return the tuples (row, list in the short form of the table), by the rows."""
        return [(list(row), short) for short, row in self._found.items()]

    @staticmethod
    def is_before(one, other):
        """Tell whether one row comes before another one: by length, then in sorted order."""
        return (len(one), list(one)) < (len(other), list(other))

    def __len__(self):
        return len(self._found)

    def __contains__(self, value):
        if not isinstance(value, SourceList) or value.kind != self._first.kind:
            return False
        return self._table.known_short(value) in self._found


def names_under(world, programs):
    """Return the sorted tuple of the different names of a list of programs, of all if it is None."""
    if programs is None:
        return tuple(sorted(world.names()))
    check_row(world, programs)
    return tuple(sorted(set(programs)))


def alike(world, one, other):
    """Tell whether two rows make the same of every document."""
    check_row(world, one)
    check_row(world, other)
    return _first_apart(world, one, other) is None


def parting_rows(world, one, other):
    """Return the first field whose values differ behind two rows, with the least such document, None if none does."""
    check_row(world, one)
    check_row(world, other)
    return _first_apart(world, one, other)


def _first_apart(world, one, other):
    for field, kind in world.fields().items():
        table = world.list_table(kind)
        start = table.short(field_list(world, field))
        here, there = table.over(one, start), table.over(other, start)
        if here != there:
            return (field, parting(table.list_of(here), table.list_of(there)))
    return None

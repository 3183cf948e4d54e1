"""List graphs: all lists that come from one by putting it back over rows of any length."""

from keptedits.checks import check_row
from keptedits.errors import UnknownList
from keptedits.lists import SourceList, parting
from keptedits.putting import check_list, field_list
from keptedits.tables import table_for


class FoundLists:
    """The lists of a list graph: a dict from their numbers in a table to their rows, in the sequence of these."""

    def __init__(self, table, names, number):
        self.table = table
        self.start = number
        self.row_table = table.rows_of_lists(names, number)

    def many(self):
        """Return how many lists there are."""
        return len(self.row_table)

    def first_list(self):
        """Return the list from which all others come."""
        return self.table.list_of(self.start)

    def second_list(self):
        """Return the tuple (row, list) behind the first one, of several lists."""
        number = list(self.row_table)[1]
        return (list(self.row_table[number]), self.table.list_of(number))

    def lists(self):
        """Return all lists, by their rows."""
        return [self.table.list_of(number) for number in self.row_table]

    def row_of(self, told):
        """Return the row of a list as a tuple, None if it is none of the lists."""
        return self.row_table.get(self.table.known_number(told))


class ListGraph:
    """All normal lists that come from a list by putting it back before passes of some programs; it never changes."""

    def __init__(self, world, first, programs=None):
        check_list(world, first)
        self._first = first
        self._under = names_under(world, programs)
        table, number = table_for(world, first)
        self._lists_found = FoundLists(table, self._under, number)

    @property
    def first(self):
        """The list from which all others come."""
        return self._first

    @property
    def under(self):
        """The sorted tuple of the different names of the programs."""
        return self._under

    def lists(self):
        """Return all lists, by their rows."""
        return self._lists_found.lists()

    def rows(self):
        """Return the rows of the lists, by length, then in sorted order."""
        return [list(row) for row in self._lists_found.row_table.values()]

    def row_to(self, value):
        """Return the row of a list."""
        if value not in self:
            raise UnknownList(value)
        return list(self._lists_found.row_of(value))

    def walk(self):
        """Yield the tuples (row, list), by the rows."""
        for number, row in self._lists_found.row_table.items():
            yield (list(row), self._lists_found.table.list_of(number))

    @staticmethod
    def is_before(one, other):
        """Tell whether one row comes before another one: by length, then in sorted order."""
        return (len(one), list(one)) < (len(other), list(other))

    def __len__(self):
        return len(self._lists_found.row_table)

    def __contains__(self, value):
        if not isinstance(value, SourceList) or value.kind != self._first.kind:
            return False
        return self._lists_found.row_of(value) is not None


def names_under(world, programs):
    """Return the sorted tuple of the different names of a list of programs, of all if it is None."""
    if programs is None:
        return tuple(sorted(world.names()))
    check_row(world, programs)
    return tuple(sorted(set(programs)))


def lists_of_own(world, name, own, programs=None):
    """Return the lists of the list graph of an own field."""
    kind = world.program(name).own_field(own).kind
    names = names_under(world, programs)
    table = world.list_table(kind)
    return FoundLists(table, names, table.pass_of(name).own_number(own))


def alike(world, one, other):
    """Tell whether two rows make the same of every document."""
    check_row(world, one)
    check_row(world, other)
    return _first_apart(world, one, other) is None


def parting_rows(world, one, other):
    """Return the first field whose values differ behind two rows, with the least such document, None if none does."""
    check_row(world, one)
    check_row(world, other)
    return _first_apart(world, one, other)


def _first_apart(world, one, other):
    for field, kind in world.fields().items():
        table = world.list_table(kind)
        start = table.number_of_list(field_list(world, field))
        here, there = table.over(one, start), table.over(other, start)
        if here != there:
            return (field, parting(table.list_of(here), table.list_of(there)))
    return None

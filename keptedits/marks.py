"""Marked lists: source lists put back before an edited pass, which know what the edit gives."""

from keptedits.errors import InvalidValue, NotRemovable, NotSettable, Unlike
from keptedits.maps import NumberMap, TextMap, pieces_within
from keptedits.putting import check_list
from keptedits.tables import table_for


class MarkedList:
    """Entries (field, map) and either an end or a mark, which takes the set value; it never changes.

    Its objects are made by edited_list.
    """

    def __init__(self, kind, entries, end, mark, settable):
        self._kind = kind
        self._entries = tuple(entries)
        self._end = end
        self._mark = mark
        self._settable = settable
        # Marks count at the settable values alone.
        self._mark_told = None if mark is None else _confined(mark, settable).parts()

    @property
    def kind(self):
        """The kind of the values."""
        return self._kind

    @property
    def entries(self):
        """The tuple of the entries (field, map)."""
        return self._entries

    @property
    def end(self):
        """The value where no field of an entry is present, None for nothing or if there is a mark."""
        return self._end

    @property
    def mark(self):
        """The map that takes the set value where no field of an entry is present, None if there is an end."""
        return self._mark

    @property
    def settable(self):
        """The set of the settable values."""
        return self._settable

    def shows(self, document, value):
        """Return the value at a document and a set value, None if there is none."""
        if value not in self._settable:
            raise InvalidValue(value)
        for field, mapping in self._entries:
            if field in document:
                return mapping.at(document[field])
        return self._end if self._mark is None else self._mark.at(value)

    def alike(self, other):
        """Tell whether both have the same value at all documents and set values."""
        if not isinstance(other, MarkedList) or self._settable != other._settable:
            raise Unlike()
        return self._content() == other._content()

    def __eq__(self, other):
        if not isinstance(other, MarkedList) or self._settable != other._settable:
            return False
        return self._content() == other._content()

    def _content(self):
        return (self._entries, self._end, self._mark_told)


def edited_list(world, name, own, first):
    """Return the marked list of a source list, put before an edit of an own field."""
    own_field = world.program(name).own_field(own)
    if own_field.settable.is_empty:
        raise NotSettable(own)
    check_list(world, first)
    table, number = table_for(world, first)
    step = table.edited_pass(name, own)
    return marked_list_of(table, step, step.marked(number))


def removed_list(world, name, own, first):
    """Return a source list, put before a removal of an own field."""
    own_field = world.program(name).own_field(own)
    if not own_field.removable:
        raise NotRemovable(own)
    check_list(world, first)
    table, number = table_for(world, first)
    return table.list_of(table.edited_pass(name, own).without(number))


def marked_list_of(table, step, marked):
    """Return the marked list of a tuple that an edited pass tells of a table."""
    entries = [(field, table.map_at(number)) for field, number in marked[0]]
    mark = None if marked[2] is None else table.map_at(marked[2])
    return MarkedList(table.kind, entries, marked[1], mark, step.settable_values())


def _confined(mapping, values):
    """Return the map that takes the values of a set like a map, and all others to one value."""
    if mapping.kind == "number":
        return NumberMap(_confined_pieces(mapping, values.stretches()))
    words = values.words()
    if not values.others:
        return TextMap({word: mapping.at(word) for word in words}, "a")
    exceptions = mapping.exceptions()
    for word in words:
        exceptions[word] = "a"
    return TextMap(exceptions, mapping.rest)


def _confined_pieces(mapping, stretches):
    found = []
    start = None
    for first, last in stretches:
        if first is not None:
            found.append((start, first - 1, 0))
        found.extend(pieces_within(mapping.pieces(), first, last))
        start = None if last is None else last + 1
    return found if start is None else found + [(start, None, 0)]

"""Marked lists: source lists put back before an edited pass, which know what the edit gives."""

from keptedits.errors import InvalidValue, NotRemovable, NotSettable, Unlike
from keptedits.maps import NumberMap, TextMap, pieces_within
from keptedits.putting import check_list
from keptedits.tables import table_for


class MarkedList:
    """Entries (field, map) and either an end or a mark, which takes the set value; it never changes.

    Its objects are made by edited_list.
    """

    def __init__(self, kind, entries, end, mark, settable):
        self._kind = kind
        self._entries = tuple(entries)
        self._end = end
        self._mark = mark
        self._settable = settable
        # Marks count at the settable values alone.
        self._mark_told = None if mark is None else _confined(mark, settable).parts()

    @property
    def kind(self):
        """The kind of the values."""
        return self._kind

    @property
    def entries(self):
        """The tuple of the entries (field, map)."""
        return self._entries

    @property
    def end(self):
        """The value where no field of an entry is present, None for nothing or if there is a mark."""
        return self._end

    @property
    def mark(self):
        """The map that takes the set value where no field of an entry is present, None if there is an end."""
        return self._mark

    @property
    def settable(self):
        """The set of the settable values."""
        return self._settable

    def shows(self, document, value):
        """Return the value at a document and a set value, None if there is none."""
        if value not in self._settable:
            raise InvalidValue(value)
        for field, mapping in self._entries:
            if field in document:
                return mapping.at(document[field])
        return self._end if self._mark is None else self._mark.at(value)

    def alike(self, other):
        """Tell whether both have the same value at all documents and set values."""
        if not isinstance(other, MarkedList) or self._settable != other._settable:
            raise Unlike()
        return self._content() == other._content()

    def __eq__(self, other):
        if not isinstance(other, MarkedList) or self._settable != other._settable:
            return False
        return self._content() == other._content()

    def _content(self):
        return (self._entries, self._end, self._mark_told)


class EditedPass:
    """A pass of a program in which one own field is edited, before which lists in the short form of a table are put.

    A marked list is a tuple (entries, end, number of the mark) here, of which the end or the mark is None.
    """

    def __init__(self, world, name, own, table):
        program = world.program(name)
        own_field = program.own_field(own)
        self._writer = name
        self._settable = own_field.settable
        self._table = table
        self._written = {}
        self._is_unwritten = True
        for field, write in program.writes().items():
            if write is not None and write.own == own:
                self._is_unwritten = False
                # None for a write of another kind than that of the table, whose lists do not have its field.
                self._written[field] = table.number_of_map(write.mapping) if table.kind == own_field.kind else None
        self._marks = {}

    def writes_nothing(self):
        """Tell whether the program writes no field from the edited own field."""
        return self._is_unwritten

    def settable_values(self):
        """Return the settable values of the edited own field."""
        return self._settable

    def marked(self, short):
        """Return a list, put before an edit that gives a value."""
        found, end, mark = self._put_through(short, True)
        if mark is not None:
            fixed = self._mark_parts(mark)[0]
            end, mark = (None, mark) if fixed is None else (fixed, None)
        entries, end = self._table.normal(found, end)
        return (entries, end, mark)

    def without(self, short):
        """Return a list, put before a removal, in its short form."""
        found, end, _ = self._put_through(short, False)
        return self._table.normal(found, end)

    def mark_told(self, mark):
        """Return what tells marks apart at the settable values, None for no mark."""
        return None if mark is None else self._mark_parts(mark)[1]

    def list_of(self, marked):
        """Return the marked list of a tuple."""
        entries = [(field, self._table.map_at(number)) for field, number in marked[0]]
        mark = None if marked[2] is None else self._table.map_at(marked[2])
        return MarkedList(self._table.kind, entries, marked[1], mark, self._settable)

    def _mark_parts(self, mark):
        """Return the one value to which a mark takes all settable values, or None, and what tells it apart."""
        if mark not in self._marks:
            mapping = self._table.map_at(mark)
            self._marks[mark] = (mapping.constant(self._settable), _confined(mapping, self._settable).parts())
        return self._marks[mark]

    def _put_through(self, short, is_given):
        """Return the entries, the end and the mark of a list put before the edit, which gives a value or removes."""
        found, seen = [], {}
        for entry in short[0]:
            if entry[0] not in self._written:
                end = self._table.put_entry_back(self._writer, entry, found, seen)
                if end is not None:
                    return found, end, None
            elif is_given:
                return found, None, self._table.followed(self._written[entry[0]], entry[1])
        return found, short[1], None


def edited_list(world, name, own, first):
    """Return the marked list of a source list, put before an edit of an own field."""
    own_field = world.program(name).own_field(own)
    if own_field.settable.is_empty:
        raise NotSettable(own)
    check_list(world, first)
    table, short = table_for(world, first)
    step = EditedPass(world, name, own, table)
    return step.list_of(step.marked(short))


def removed_list(world, name, own, first):
    """Return a source list, put before a removal of an own field."""
    own_field = world.program(name).own_field(own)
    if not own_field.removable:
        raise NotRemovable(own)
    check_list(world, first)
    table, short = table_for(world, first)
    return table.list_of(EditedPass(world, name, own, table).without(short))


def _confined(mapping, values):
    """Return the map that takes the values of a set like a map, and all others to one value."""
    if mapping.kind == "number":
        return NumberMap(_confined_pieces(mapping, values.stretches()))
    words = values.words()
    if not values.others:
        return TextMap({word: mapping.at(word) for word in words}, "a")
    exceptions = mapping.exceptions()
    for word in words:
        exceptions[word] = "a"
    return TextMap(exceptions, mapping.rest)


def _confined_pieces(mapping, stretches):
    found = []
    start = None
    for first, last in stretches:
        if first is not None:
            found.append((start, first - 1, 0))
        found.extend(pieces_within(mapping.pieces(), first, last))
        start = None if last is None else last + 1
    return found if start is None else found + [(start, None, 0)]

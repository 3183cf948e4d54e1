"""Marked lists: source lists put back before an edited pass, which know what the edit gives."""

from keptedits.errors import InvalidValue, NotRemovable, NotSettable, Unlike
from keptedits.lists import SourceList, normal_entries
from keptedits.maps import NumberMap, TextMap, pieces_within
from keptedits.putting import check_list, pass_lists
from keptedits.tables import MapTable


class MarkedList:
    """Entries (field, map) and either an end or a mark, which takes the set value; it never changes.

    Its objects are made by edited_list.
    """

    def __init__(self, first, entries, end, mark, settable):
        self._kind = first.kind
        self._entries = tuple(entries)
        self._end = end
        self._mark = mark
        self._settable = settable
        # Marks count at the settable values alone.
        self._mark_told = None if mark is None else _confined(mark, settable).parts()

    @property
    def kind(self):
        """The kind of the values."""
        return self._kind

    @property
    def entries(self):
        """The tuple of the entries (field, map)."""
        return self._entries

    @property
    def end(self):
        """The value where no field of an entry is present, None for nothing or if there is a mark."""
        return self._end

    @property
    def mark(self):
        """The map that takes the set value where no field of an entry is present, None if there is an end."""
        return self._mark

    @property
    def settable(self):
        """The set of the settable values."""
        return self._settable

    def shows(self, document, value):
        """Return the value at a document and a set value, None if there is none."""
        if value not in self._settable:
            raise InvalidValue(value)
        for field, mapping in self._entries:
            if field in document:
                return mapping.at(document[field])
        return self._end if self._mark is None else self._mark.at(value)

    def has_mark_of(self, other):
        """Tell whether both marks take each settable value to the same one, or both have none."""
        return self._mark_told == other._mark_told

    def alike(self, other):
        """Tell whether both have the same value at all documents and set values."""
        if not isinstance(other, MarkedList) or self._settable != other._settable:
            raise Unlike()
        return self._content() == other._content()

    def __eq__(self, other):
        if not isinstance(other, MarkedList) or self._settable != other._settable:
            return False
        return self._content() == other._content()

    def _content(self):
        return (self._entries, self._end, self._mark_told)


class EditedPass:
    """A pass of a program in which one own field is edited, before which lists are put."""

    def __init__(self, world, name, own):
        program = world.program(name)
        self._settable = program.own_field(own).settable
        self._lists = pass_lists(world, name)
        self._written = {}
        for field, write in program.writes().items():
            if write is not None and write.own == own:
                self._written[field] = write.mapping
        self._maps = MapTable()

    def writes_nothing(self):
        """Tell whether the program writes no field from the edited own field."""
        return len(self._written) == 0

    def marked(self, first):
        """Return the marked list of a source list, put before an edit that gives a value."""
        found, end, mark = self._put_through(first, True)
        fixed = end if mark is None else mark.constant(self._settable)
        if mark is not None and fixed is None:
            constants = [mapping.constant() for _, mapping in found]
            return MarkedList(first, normal_entries(found, constants, None), None, mark, self._settable)
        told = SourceList(first.kind, found, fixed)
        return MarkedList(first, told.entries, fixed, None, self._settable)

    def without(self, first):
        """Return a source list, put before a removal."""
        found, end, _ = self._put_through(first, False)
        return SourceList(first.kind, found, end)

    def _put_through(self, first, is_given):
        """Return the entries, the end and the mark of a list put before the edit, which gives a value or removes."""
        found, seen = [], {}
        for field, mapping in first.entries:
            if field in self._written:
                if is_given:
                    return found, None, self._followed(self._written[field], mapping)
                continue
            for source, behind in self._lists[field].entries:
                if source not in seen:
                    seen[source] = True
                    found.append((source, self._followed(behind, mapping)))
            end = self._lists[field].end
            if end is not None:
                return found, mapping.at(end), None
        return found, first.end, None

    def _followed(self, one, other):
        # Many lists are put before one edit, with few maps.
        return self._maps.map_at(self._maps.followed(self._maps.number_of(one), self._maps.number_of(other)))


def edited_list(world, name, own, first):
    """Return the marked list of a source list, put before an edit of an own field."""
    own_field = world.program(name).own_field(own)
    if own_field.settable.is_empty:
        raise NotSettable(own)
    check_list(world, first)
    return EditedPass(world, name, own).marked(first)


def removed_list(world, name, own, first):
    """Return a source list, put before a removal of an own field."""
    own_field = world.program(name).own_field(own)
    if not own_field.removable:
        raise NotRemovable(own)
    check_list(world, first)
    return EditedPass(world, name, own).without(first)


def _confined(mapping, values):
    """Return the map that takes the values of a set like a map, and all others to one value."""
    if mapping.kind == "number":
        return NumberMap(_confined_pieces(mapping, values.stretches()))
    words = values.words()
    if not values.others:
        return TextMap({word: mapping.at(word) for word in words}, "a")
    exceptions = mapping.exceptions()
    for word in words:
        exceptions[word] = "a"
    return TextMap(exceptions, mapping.rest)


def _confined_pieces(mapping, stretches):
    found = []
    start = None
    for first, last in stretches:
        if first is not None:
            found.append((start, first - 1, 0))
        found.extend(pieces_within(mapping.pieces(), first, last))
        start = None if last is None else last + 1
    return found if start is None else found + [(start, None, 0)]

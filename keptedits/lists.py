"""Source lists: from which fields, by which maps, a value comes."""

from keptedits.errors import InvalidList, Unlike
from keptedits.maps import bad_entry, constant_map_to, values_apart
from keptedits.sets import full_set, is_kind, is_name, is_value


class SourceList:
    """Entries (field, map) and an end; it keeps its normal form and never changes."""

    def __init__(self, kind, entries=(), end=None):
        if not is_kind(kind) or not isinstance(entries, (list, tuple)):
            raise InvalidList(-1)
        if not (end is None or is_value(end, kind)):
            raise InvalidList(-1)
        position = bad_entry(entries, kind)
        if position is not None:
            raise InvalidList(position)
        self._kind = kind
        self._entries = tuple(normal_entries(entries, [mapping.constant() for _, mapping in entries], end))
        self._end = end

    @property
    def kind(self):
        """The kind of the values."""
        return self._kind

    @property
    def entries(self):
        """The tuple of the normal entries (field, map)."""
        return self._entries

    @property
    def end(self):
        """The value where no field of an entry is present, None for nothing."""
        return self._end

    def fields(self):
        """Return the fields of the entries, in sequence."""
        return [field for field, _ in self._entries]

    def decider(self, presence):
        """Return the field that decides where these fields are present, "=" for the end, None for nothing."""
        for field, _ in self._entries:
            if field in presence:
                return field
        return None if self._end is None else "="

    def at(self, document):
        """Return the value at a document, None if there is none."""
        for field, mapping in self._entries:
            if field in document:
                return mapping.at(document[field])
        return self._end

    def is_always(self, value):
        """Tell whether the list has this value at every document; None asks whether it never has one."""
        # A normal list with an entry has another value, or none, where just this field is present or absent.
        if len(self._entries) > 0:
            return False
        if value is None:
            return self._end is None
        return is_value(value, self._kind) and value == self._end

    def __len__(self):
        return len(self._entries)

    def __contains__(self, field):
        return is_name(field) and field in [one for one, _ in self._entries]

    def __eq__(self, other):
        return isinstance(other, SourceList) and self._content() == other._content()

    def __repr__(self):
        return f"SourceList({self._kind!r}, {self._entries!r}, {self._end!r})"

    def _content(self):
        return (self._kind, self._entries, self._end)


def normal_list(kind, entries, end):
    """Return the source list of entries and an end that are known to be normal."""
    found = SourceList(kind)
    found._entries = tuple(entries)
    found._end = end
    return found


def normal_entries(entries, constants, end):
    """Return the normal ones of some entries, which begin with a field, with the constants of their maps."""
    count = len(entries)
    if constants.count(None) == count:
        return list(entries)
    while end is not None and count > 0 and constants[count - 1] == end:
        count -= 1
    found = list(entries[:count])
    start = 0
    while start < count:
        behind = start + 1
        while behind < count and constants[start] is not None and constants[behind] == constants[start]:
            behind += 1
        if behind - start > 1:
            found[start:behind] = sorted(found[start:behind], key=_field_of)
        start = behind
    return found


def parting(one, other):
    """Return the least document at which two lists have different values, None if they are equal."""
    if one.kind != other.kind:
        raise Unlike()
    if one.end != other.end:
        return {}
    fields = sorted(set(one.fields() + other.fields()))
    for field in fields:
        value = _value_apart(one, other, field)
        if value is not None:
            return {field: value}
    for position, first in enumerate(fields):
        for second in fields[position + 1:]:
            document = _pair_apart(one, other, first, second)
            if document is not None:
                return document
    return None


def _field_of(entry):
    return entry[0]


def _map_at(values, field):
    """Return the map that tells the value where just this field is present, None if there is no value."""
    for one, mapping in values.entries:
        if one == field:
            return mapping
    return None if values.end is None else constant_map_to(values.kind, values.end)


def _value_apart(one, other, field):
    """Return the least value of a field that parts two lists where just this field is present."""
    here, there = _map_at(one, field), _map_at(other, field)
    if here is not None and there is not None:
        return here.apart(there)
    return None if here is None and there is None else full_set(one.kind).least()


def _pair_apart(one, other, first, second):
    """Return the least document of two fields that parts two lists which no single field parts."""
    presence = (first, second)
    here, there = one.decider(presence), other.decider(presence)
    # Where the same field or an end decides, a document with one field would part them, too.
    if here not in presence or there not in presence or here == there:
        return None
    maps = {here: _map_at(one, here), there: _map_at(other, there)}
    everything = full_set(one.kind)
    values = values_apart(maps[first], everything, maps[second], everything)
    return None if values is None else {first: values[0], second: values[1]}

"""Programs: what they read of a document, and what they write."""

from keptedits.errors import InvalidOwn, InvalidProgram, InvalidWrite, UnknownOwn
from keptedits.maps import Map, bad_entry
from keptedits.sets import is_kind, is_name, is_set, is_value, set_of


class Own:
    """An own field of a program: where its value comes from, and what persons may do with it."""

    def __init__(self, kind, sources=(), *, default=None, settable=None, removable=False):
        if not is_kind(kind):
            raise InvalidOwn("kind", None)
        _check_sources(kind, sources)
        if not (default is None or is_value(default, kind)):
            raise InvalidOwn("default", None)
        if not (settable is None or _can_be_settable(settable, kind)):
            raise InvalidOwn("settable", None)
        if not isinstance(removable, bool):
            raise InvalidOwn("removable", None)
        self._kind = kind
        self._sources = tuple([(field, mapping) for field, mapping in sources])
        self._default = default
        self._settable = set_of(kind) if settable is None else settable
        self._removable = removable

    @property
    def kind(self):
        """The kind of the values."""
        return self._kind

    @property
    def sources(self):
        """The tuple of the sources (field, map)."""
        return self._sources

    @property
    def default(self):
        """The value where no source is present, None for nothing."""
        return self._default

    @property
    def settable(self):
        """The set of the values that an edit may give."""
        return self._settable

    @property
    def removable(self):
        """Whether an edit may remove the own field."""
        return self._removable

    def __eq__(self, other):
        return isinstance(other, Own) and self._content() == other._content()

    def _content(self):
        return (self._kind, self._sources, self._default, self._settable, self._removable)


class Write:
    """What a program writes into a field: an own field of it, taken by a map."""

    def __init__(self, own, mapping, *, leaves=False):
        if not is_name(own):
            raise InvalidWrite("own")
        if not isinstance(mapping, Map):
            raise InvalidWrite("mapping")
        if not isinstance(leaves, bool):
            raise InvalidWrite("leaves")
        self._own = own
        self._mapping = mapping
        self._leaves = leaves

    @property
    def own(self):
        """The name of the own field."""
        return self._own

    @property
    def mapping(self):
        """The map that takes the value of the own field."""
        return self._mapping

    @property
    def leaves(self):
        """Whether the field stays as it was where the own field has nothing."""
        return self._leaves

    def __eq__(self, other):
        return isinstance(other, Write) and self._content() == other._content()

    def _content(self):
        return (self._own, self._mapping, self._leaves)


class Program:
    """A program of one version, with its own fields and its writes."""

    MAX_OWN = 4

    def __init__(self, name, own=None, writes=None, *, keeps=True):
        if not is_name(name):
            raise InvalidProgram("name", None)
        own_fields = {} if own is None else own
        if not _are_own_fields(own_fields, self.MAX_OWN):
            raise InvalidProgram("own", None)
        given = {} if writes is None else writes
        _check_writes(given, own_fields)
        if not isinstance(keeps, bool):
            raise InvalidProgram("keeps", None)
        self._name = name
        self._own_fields = {own_name: own_fields[own_name] for own_name in sorted(own_fields)}
        self._writes = {field: given[field] for field in sorted(given)}
        self._keeps = keeps

    @property
    def name(self):
        """The name of the program."""
        return self._name

    @property
    def keeps(self):
        """Whether fields that the program does not know stay as they were."""
        return self._keeps

    def own_fields(self):
        """Return the dict from the names of the own fields to these, sorted."""
        return {own: self._own_fields[own] for own in self._own_fields}

    def writes(self):
        """Return the dict from the known fields to their writes or None, sorted."""
        return {field: self._writes[field] for field in self._writes}

    def own_field(self, own):
        """Return the own field of a name."""
        if not isinstance(own, str) or own not in self._own_fields:
            raise UnknownOwn(own)
        return self._own_fields[own]

    def own_or_none(self, own):
        """Return the own field of a string, None if it names none."""
        return self._own_fields.get(own)

    def known_fields(self):
        """Return the fields that the program knows, sorted."""
        return list(self._writes)

    def __eq__(self, other):
        return isinstance(other, Program) and self._content() == other._content()

    def __repr__(self):
        return f"Program({self._name!r}, {list(self._own_fields)!r}, {list(self._writes)!r})"

    def _content(self):
        return (self._name, self._own_fields, self._writes, self._keeps)


def _check_sources(kind, sources):
    if not isinstance(sources, (list, tuple)):
        raise InvalidOwn("sources", None)
    position = bad_entry(sources, kind)
    if position is not None:
        raise InvalidOwn("sources", position)


def _can_be_settable(values, kind):
    # With one settable value nobody could tell an edit from none.
    return is_set(values, kind) and values.size != 1


def _are_own_fields(own_fields, most):
    if not isinstance(own_fields, dict) or len(own_fields) > most:
        return False
    return all([is_name(own) and isinstance(own_fields[own], Own) for own in own_fields])


def _check_writes(writes, own_fields):
    if not isinstance(writes, dict):
        raise InvalidProgram("writes", None)
    for field, write in writes.items():
        if not is_name(field) or not (write is None or isinstance(write, Write)):
            raise InvalidProgram("writes", None)
    for field in sorted(writes):
        if writes[field] is not None and not _suits(writes[field], own_fields):
            raise InvalidProgram("writes", field)


def _suits(write, own_fields):
    return write.own in own_fields and write.mapping.kind == own_fields[write.own].kind

"""What can come about: beginnings, presences, values of fields, and ways to documents."""

from keptedits.checks import check_document, check_presence, is_presence
from keptedits.errors import InvalidBeginnings, InvalidStep, InvalidValue, UnknownProgram, Unlike
from keptedits.maps import is_map, values_apart
from keptedits.passes import is_document, is_edit, made_new, run
from keptedits.sets import is_name, is_number, is_value
from keptedits.ways import way_to_values


class Beginnings:
    """Documents made new by some programs, some documents, perhaps all documents; they never change."""

    MAX_DOCUMENTS = 6

    def __init__(self, *, new=(), documents=(), anything=False):
        if not isinstance(new, (list, tuple)):
            raise InvalidBeginnings("new", None)
        for position, name in enumerate(new):
            if not is_name(name):
                raise InvalidBeginnings("new", position)
        if not isinstance(documents, (list, tuple)) or len(documents) > self.MAX_DOCUMENTS:
            raise InvalidBeginnings("documents", None)
        for position, document in enumerate(documents):
            if not isinstance(document, dict):
                raise InvalidBeginnings("documents", position)
        if not isinstance(anything, bool):
            raise InvalidBeginnings("anything", None)
        self._new = tuple(new)
        self._documents = [_copy_of(document) for document in documents]
        self._anything = anything

    @property
    def new(self):
        """The tuple of the names of programs that make documents new."""
        return self._new

    @property
    def anything(self):
        """Whether all documents are beginnings."""
        return self._anything

    def documents(self):
        """Return the documents that are beginnings."""
        return [_copy_of(document) for document in self._documents]

    def __eq__(self, other):
        return isinstance(other, Beginnings) and self._content() == other._content()

    def _content(self):
        return (self._new, self._documents, self._anything)


class Reached:
    """What comes about from beginnings by the steps of all programs of a world; it never changes."""

    def __init__(self, world, beginnings):
        check_beginnings(world, beginnings)
        self._world = world
        self._beginnings = beginnings
        self._finding = world.finding(beginnings)
        self._spread = self._finding.spread
        self._presences = self._finding.sorted_presences
        self._bits = self._finding.bits

    @property
    def world(self):
        """The world whose programs take the steps."""
        return self._world

    @property
    def beginnings(self):
        """The beginnings."""
        return self._beginnings

    def presences(self):
        """Return the presences of all documents that come about, by their size, then sorted."""
        return list(self._presences)

    def values_of(self, presence, field):
        """Return the set of the values that a field has in documents of a presence that come about."""
        check_presence(self._world, presence)
        self._world.kind_of_field(field)
        return self.values_among([presence], field)

    def values_among(self, presences, field):
        """Return the set of the values that a field has in documents of some presences, which are such, or none."""
        bits = 0
        for presence in presences:
            if presence in self._bits:
                bits |= self._spread.values_bits(self._bits[presence], field)
        return self._spread.atoms_for(field).values_of(bits)

    def way_to(self, presence):
        """Return a way with the fewest steps to a document with a presence, None if there is none."""
        check_presence(self._world, presence)
        return self._way(presence, {}) if presence in self._bits else None

    def way_with(self, presence, field, value):
        """Return a way to a document with a presence in which a field has a value, None if there is none."""
        check_presence(self._world, presence)
        if not is_value(value, self._world.kind_of_field(field)):
            raise InvalidValue(value)
        return self._way(presence, {field: value}) if value in self.values_among([presence], field) else None

    def can_part(self, presence, one, first, other, second):
        """Tell whether a document with a presence comes about in which two maps of two fields' values differ."""
        self._check_parting(presence, one, first, other, second)
        return self.values_parted(presence, one, first, other, second) is not None

    def way_parting(self, presence, one, first, other, second):
        """Return a way to a document in which two maps of two fields' values differ, None if there is none."""
        self._check_parting(presence, one, first, other, second)
        wanted = self.values_parted(presence, one, first, other, second)
        return None if wanted is None else self._way(presence, wanted)

    def document_of(self, way):
        """Return the document at the end of a way."""
        if not isinstance(way, tuple) or len(way) != 2:
            raise InvalidStep(-1)
        document = self._document_at(way[0])
        if document is None:
            raise InvalidStep(-1)
        try:
            return run(self._world, way[1], document)
        except InvalidStep:
            raise InvalidStep(-1) from None

    def __contains__(self, presence):
        return is_presence(self._world, presence) and presence in self._bits

    def __len__(self):
        return len(self._presences)

    def _way(self, presence, wanted):
        pairs = self._finding.pairs() if len(wanted) == 2 else None
        return way_to_values(self._world, self._spread, pairs, self._bits[presence], wanted)

    def _check_parting(self, presence, one, first, other, second):
        check_presence(self._world, presence)
        kinds = [self._world.kind_of_field(one), self._world.kind_of_field(other)]
        if kinds[0] != kinds[1] or not is_map(first, kinds[0]) or not is_map(second, kinds[0]):
            raise Unlike()

    def values_parted(self, presence, one, first, other, second):
        """Return values of one or two fields at which two maps differ and that come about, None if there are none."""
        if presence not in self._bits or one not in presence or other not in presence:
            return None
        if one == other:
            value = first.apart(second, self.values_among([presence], one))
            return None if value is None else {one: value}
        if one > other:
            one, first, other, second = other, second, one, first
        relation = self._finding.pairs().relation(self._bits[presence], one, other)
        atoms = self._spread.atoms_for(one)
        value = first.apart(second, atoms.values_of(relation.equal))
        if value is not None:
            return {one: value, other: value}
        for bits, partners in relation.blocks:
            values = values_apart(first, atoms.values_of(bits), second, atoms.values_of(partners))
            if values is not None:
                return {one: values[0], other: values[1]}
        return None

    def _document_at(self, beginning):
        """Return the document of a beginning, None for any value that is none."""
        if not isinstance(beginning, tuple) or len(beginning) < 2 or not isinstance(beginning[0], str):
            return None
        if beginning[0] == "new" and len(beginning) == 3:
            return self._made_new(beginning[1], beginning[2])
        if beginning[0] == "document" and len(beginning) == 2:
            return self._given_document(beginning[1])
        if beginning[0] == "any" and len(beginning) == 2 and self._beginnings.anything:
            return beginning[1] if is_document(self._world, beginning[1]) else None
        return None

    def _made_new(self, name, edit):
        if not is_name(name) or name not in self._beginnings.new or not is_edit(self._world, name, edit):
            return None
        return made_new(self._world, name, edit)

    def _given_document(self, position):
        documents = self._beginnings.documents()
        return documents[position] if is_number(position) and 0 <= position < len(documents) else None


def check_beginnings(world, beginnings):
    """Raise UnknownProgram or InvalidDocument for the first beginning that is none of the world."""
    for name in beginnings.new:
        if name not in world:
            raise UnknownProgram(name)
    for document in beginnings.documents():
        check_document(world, document)


def _copy_of(document):
    return {field: document[field] for field in document}

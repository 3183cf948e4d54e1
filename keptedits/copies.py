"""Copies: documents that know from which edits of persons their fields come."""

from keptedits.checks import check_document, check_edit
from keptedits.errors import InvalidNumber
from keptedits.passes import changes_of, written
from keptedits.sets import is_number


class Copy:
    """A document with an origin of each field, its root, and the numbers of the edits that it knows; it never changes.

    Other copies than those of a root are made by copy_of_parts.
    """

    def __init__(self, world, document):
        check_document(world, document)
        self._world = world
        self._root = copied(document)
        self._now = self._root
        self._origin_table = {field: ("root",) if field in document else None for field in world.fields()}
        self._known = ()

    @property
    def world(self):
        """The world of the document."""
        return self._world

    @property
    def known(self):
        """The sorted tuple of the numbers of the edits that the copy knows."""
        return self._known

    def document(self):
        """Return the document as it is now."""
        return copied(self._now)

    def root(self):
        """Return the document that the copy was at first."""
        return copied(self._root)

    def origin(self, field):
        """Return the origin of a field."""
        self._world.kind_of_field(field)
        return self._origin_table[field]

    def origins(self):
        """Return the dict from all fields to their origins."""
        return copied(self._origin_table)

    def stepped(self, name, edit=None, *, number=None):
        """Return the copy behind a step, whose number is used if the edit edits."""
        program = self._world.program(name)
        given = {} if edit is None else edit
        check_edit(program, given)
        changes = changes_of(program, self._now, given)
        if changes and not self._is_new(number):
            raise InvalidNumber(number)
        return copy_behind(self, program, changes, {own: number for own in changes})

    def shown(self, name, own):
        """Return the tuple (value, origin) that an own field shows."""
        return shown_by(self._world.program(name).own_field(own), self._now, self._origin_table)

    def __eq__(self, other):
        return isinstance(other, Copy) and self._content() == other._content()

    def _is_new(self, number):
        return is_number(number) and number >= 1 and number not in self._known

    def _content(self):
        return (self._known, self._now, self._root, self._origin_table, self._world)


def copied(table):
    """Return a copy of a dict with plain keys."""
    return {key: table[key] for key in table}


def shown_by(own_field, document, origins):
    """Return the tuple (value, origin) that an own field shows of a document whose fields have these origins."""
    for field, mapping in own_field.sources:
        if field in document:
            return (mapping.at(document[field]), origins[field])
    # What is absent has a hand or nothing as its origin.
    numbers = [origins[field][1] for field, _ in own_field.sources if origins[field] is not None]
    if numbers:
        return (own_field.default, ("hand", max(numbers)))
    return (own_field.default, None if own_field.default is None else ("made",))


def copy_behind(copy, program, given, numbers):
    """Return the copy behind a step that gives values to own fields, each by the edit of a number.

    An own field that is given what is read of it counts as edited, too.
    """
    document, origins = copy.document(), copy.origins()
    shown = {own: shown_by(told, document, origins) for own, told in program.own_fields().items()}
    for own in given:
        shown[own] = (given[own], ("hand", numbers[own]))
    writes = program.writes()
    found = {}
    for field, origin in origins.items():
        left = None if field in document else origin
        if field not in writes:
            found[field] = origin if program.keeps else left
        elif writes[field] is None:
            found[field] = left
        else:
            found[field] = _origin_written(shown[writes[field].own], writes[field], given, (origin, left))
    known = list(copy.known) + list(numbers.values())
    return copy_of_parts(copy, written(copy.world, program, document, given), found, known)


def copy_of_parts(copy, document, origins, known):
    """Return a copy with the world and the root of another one."""
    found = Copy(copy.world, copy.root())
    found._now = copied(document)
    found._origin_table = copied(origins)
    found._known = tuple(sorted(set(known)))
    return found


def _origin_written(shown, write, given, before):
    """Return the origin of a written field; before are its origin, and what stays of it where the field is absent."""
    value, origin = shown
    if write.own in given or value is not None:
        return origin
    if write.leaves:
        return before[0]
    return before[1] if origin is None else origin

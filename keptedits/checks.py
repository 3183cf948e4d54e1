"""Checks of documents, edits, rows and presences against a world."""

from keptedits.errors import InvalidDocument, InvalidEdit, InvalidPresence, InvalidRow
from keptedits.sets import is_name, is_value


def check_document(world, document):
    """Raise InvalidDocument for any value that is no document of the world."""
    kinds = world.fields()
    if not _has_keys_among(document, kinds):
        raise InvalidDocument(None)
    for field in sorted(document):
        if not is_value(document[field], kinds[field]):
            raise InvalidDocument(field)


def check_edit(program, edit):
    """Raise InvalidEdit for any value that is no edit of the program."""
    own_fields = program.own_fields()
    if not _has_keys_among(edit, own_fields):
        raise InvalidEdit(None)
    for own in sorted(edit):
        if not _can_be_given(own_fields[own], edit[own]):
            raise InvalidEdit(own)


def check_row(world, row):
    """Raise InvalidRow for any value that is no list of names of programs of the world."""
    if not isinstance(row, (list, tuple)):
        raise InvalidRow(-1)
    for position, name in enumerate(row):
        if name not in world:
            raise InvalidRow(position)


def is_presence(world, value):
    """Tell whether a value is a sorted tuple of different fields of the world."""
    if not isinstance(value, tuple):
        return False
    kinds = world.fields()
    if not all([is_name(field) and field in kinds for field in value]):
        return False
    return all([value[place - 1] < value[place] for place in range(1, len(value))])


def check_presence(world, value):
    """Raise InvalidPresence for any value that is no sorted tuple of different fields of the world."""
    if not is_presence(world, value):
        raise InvalidPresence(value)


def _has_keys_among(value, known):
    return isinstance(value, dict) and all([is_name(key) and key in known for key in value])


def _can_be_given(own, value):
    return own.removable if value is None else value in own.settable

"""Putting lists back before passes: from where, ahead of a pass, a value behind it comes."""

from keptedits.checks import check_row
from keptedits.errors import InvalidList
from keptedits.lists import SourceList, normal_entries, normal_list
from keptedits.maps import same_map
from keptedits.tables import table_for


def own_list(world, name, own):
    """Return the list of an own field of a program."""
    own_field = world.program(name).own_field(own)
    constants = [mapping.constant() for _, mapping in own_field.sources]
    entries = normal_entries(own_field.sources, constants, own_field.default)
    return normal_list(own_field.kind, entries, own_field.default)


def field_list(world, field):
    """Return the list of a field alone."""
    kind = world.kind_of_field(field)
    return SourceList(kind, [(field, same_map(kind))])


def pass_lists(world, name):
    """Return the dict from the fields to the lists of their values behind a pass, sorted."""
    world.program(name)
    found = {}
    for field, kind in world.fields().items():
        table = world.list_table(kind)
        found[field] = table.list_of(table.pass_of(name).behind(field))
    return found


def put_back(world, name, first):
    """Return a list put back before a pass of the program."""
    world.program(name)
    check_list(world, first)
    return _over([name], world, first)


def over_row(world, row, first):
    """Return a list put back over a row, before its last pass first."""
    check_row(world, row)
    check_list(world, first)
    return _over(row, world, first)


def check_list(world, first):
    """Raise InvalidList for any value that is no source list over fields of the world."""
    if not isinstance(first, SourceList):
        raise InvalidList(-1)
    kinds = world.fields()
    for position, field in enumerate(first.fields()):
        if kinds.get(field) != first.kind:
            raise InvalidList(position)


def _over(row, world, first):
    table, number = table_for(world, first)
    return table.list_of(table.over(row, number))

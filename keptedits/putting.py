"""Putting lists back before passes: from where, ahead of a pass, a value behind it comes."""

from keptedits.checks import check_row
from keptedits.errors import InvalidList
from keptedits.lists import SourceList
from keptedits.maps import same_map


def own_list(world, name, own):
    """Return the list of an own field of a program."""
    own_field = world.program(name).own_field(own)
    return SourceList(own_field.kind, own_field.sources, own_field.default)


def field_list(world, field):
    """Return the list of a field alone."""
    kind = world.kind_of_field(field)
    return SourceList(kind, [(field, same_map(kind))])


def pass_lists(world, name):
    """Return the dict from the fields to the lists of their values behind a pass, sorted."""
    program = world.program(name)
    return {field: _list_behind(world, program, field) for field in world.fields()}


def put_back(world, name, first):
    """Return a list put back before a pass of the program."""
    lists = pass_lists(world, name)
    check_list(world, first)
    return put_through(lists, first)


def over_row(world, row, first):
    """Return a list put back over a row, before its last pass first."""
    check_row(world, row)
    check_list(world, first)
    lists = {name: pass_lists(world, name) for name in sorted(set(row))}
    found = first
    for name in reversed(row):
        found = put_through(lists[name], found)
    return found


def check_list(world, first):
    """Raise InvalidList for any value that is no source list over fields of the world."""
    if not isinstance(first, SourceList):
        raise InvalidList(-1)
    kinds = world.fields()
    for position, field in enumerate(first.fields()):
        if kinds.get(field) != first.kind:
            raise InvalidList(position)


def put_through(lists, first):
    """Return a list put back before a pass with these lists of its fields."""
    found = []
    seen = set()
    for field, mapping in first.entries:
        for source, behind in lists[field].entries:
            if source not in seen:
                seen.add(source)
                found.append((source, behind.then(mapping)))
        if lists[field].end is not None:
            # Behind the pass this field is always present, so no later entry decides.
            return SourceList(first.kind, found, mapping.at(lists[field].end))
    return SourceList(first.kind, found, first.end)


def _list_behind(world, program, field):
    """Return the list of the value of a field behind a pass."""
    writes = program.writes()
    if field not in writes and program.keeps:
        return field_list(world, field)
    write = writes.get(field)
    if write is None:
        return SourceList(world.kind_of_field(field))
    return _list_written(program.own_field(write.own), write, field)


def _list_written(own, write, field):
    """Return the list of what a program writes into a field."""
    entries = [(source, mapping.then(write.mapping)) for source, mapping in own.sources]
    end = None if own.default is None else write.mapping.at(own.default)
    if write.leaves and end is None and field not in [source for source, _ in entries]:
        entries.append((field, same_map(own.kind)))
    return SourceList(own.kind, entries, end)

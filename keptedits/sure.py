"""What own fields have in documents that come about: what is sure, implied, always alike, and covers."""

from keptedits.errors import InvalidValue, Unlike
from keptedits.readings import reading_of_own, way_apart
from keptedits.sets import is_value, set_of


def shown(reached, name, own):
    """Return the set of all values that an own field has in documents that come about."""
    own_field = reached.world.program(name).own_field(own)
    found = set_of(own_field.kind)
    rest = reached.presences()
    for field, mapping in own_field.sources:
        having = [presence for presence in rest if field in presence]
        found = found.united(mapping.image(reached.values_among(having, field)))
        rest = [presence for presence in rest if field not in presence]
    if len(rest) > 0 and own_field.default is not None:
        found = found.united(set_of(own_field.kind, own_field.default))
    return found


def is_sure(reached, name, own):
    """Tell whether an own field has a value in every document that comes about."""
    own_field = reached.world.program(name).own_field(own)
    return all([has_value(own_field, presence) for presence in reached.presences()])


def way_without(reached, name, own):
    """Return a way to a document in which an own field has no value, None if it is sure."""
    own_field = reached.world.program(name).own_field(own)
    for presence in reached.presences():
        if not has_value(own_field, presence):
            return reached.way_to(presence)
    return None


def way_showing(reached, name, own, value):
    """Return a way to a document in which an own field has a value, None if there is none."""
    own_field = reached.world.program(name).own_field(own)
    if not is_value(value, own_field.kind):
        raise InvalidValue(value)
    for presence in reached.presences():
        field, mapping = reading_of_own(own_field, presence)
        if field is None and own_field.default == value:
            return reached.way_to(presence)
        if field is not None:
            origins = mapping.before(set_of(own_field.kind, value)).shared(reached.values_among([presence], field))
            if not origins.is_empty:
                return reached.way_with(presence, field, origins.least())
    return None


def implies(reached, name, own, other_name, other):
    """Tell whether, wherever an own field has a value, the other one has one, too."""
    own_field = reached.world.program(name).own_field(own)
    other_field = reached.world.program(other_name).own_field(other)
    for presence in reached.presences():
        if has_value(own_field, presence) and not has_value(other_field, presence):
            return False
    return True


def always_alike(reached, name, own, other_name, other):
    """Tell whether two own fields have equal values wherever both have one."""
    return way_unlike(reached, name, own, other_name, other) is None


def way_unlike(reached, name, own, other_name, other):
    """Return a way to a document in which two own fields have different values, None if there is none."""
    own_field = reached.world.program(name).own_field(own)
    other_field = reached.world.program(other_name).own_field(other)
    if own_field.kind != other_field.kind:
        raise Unlike()
    for presence in reached.presences():
        if has_value(own_field, presence) and has_value(other_field, presence):
            here, there = reading_of_own(own_field, presence), reading_of_own(other_field, presence)
            way = way_apart(reached, presence, here, there)
            if way is not None:
                return way
    return None


def covers(reached, name):
    """Return the least sets of own fields of which one has a value in every document that comes about."""
    own_fields = reached.world.program(name).own_fields()
    wanted = []
    for presence in reached.presences():
        wanted.append([own for own in own_fields if has_value(own_fields[own], presence)])
    found = []
    for some in parts_by_size(list(own_fields)):
        if not any([all([own in some for own in less]) for less in found]):
            if all([any([own in some for own in having]) for having in wanted]):
                found.append(some)
    return found


def has_value(own_field, presence):
    """Tell whether an own field has a value where just these fields are present."""
    return own_field.default is not None or any([field in presence for field, _ in own_field.sources])


def parts_by_size(things):
    """Return all parts of a sorted list as tuples, by their size, then sorted."""
    found = [()]
    for thing in things:
        found = found + [part + (thing,) for part in found]
    return sorted(found, key=_by_size)


def _by_size(part):
    return (len(part), part)

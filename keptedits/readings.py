"""Readings: from where a value comes where just some fields are present.

A reading is a tuple (field, map); field is None for an end or a default, to which the map takes all values, and map is
None, too, if there is no value.
"""

from keptedits.maps import constant_map_to


def reading_of_own(own_field, presence):
    """Return the reading of an own field where just these fields are present."""
    return _reading(own_field.sources, own_field.default, own_field.kind, presence)


def reading_of_list(told, presence):
    """Return the reading of a source list where just these fields are present."""
    return _reading(told.entries, told.end, told.kind, presence)


def end_reading(end, kind):
    """Return the reading of an end."""
    return (None, None if end is None else constant_map_to(kind, end))


def can_be_apart(reached, presence, one, other):
    """Tell whether two readings have different values in some document of a presence that comes about."""
    if one[1] is None or other[1] is None:
        return one[1] != other[1]
    if one[0] is not None and other[0] is not None:
        return reached.values_parted(presence, one[0], one[1], other[0], other[1]) is not None
    return one[1] != other[1] and (one[0] == other[0] or _value_apart(reached, presence, one, other) is not None)


def way_apart(reached, presence, one, other):
    """Return a way to a document of a presence that comes about in which two readings differ, None if there is none."""
    if not can_be_apart(reached, presence, one, other):
        return None
    if one[1] is None or other[1] is None or (one[0] is None and other[0] is None):
        return reached.way_to(presence)
    if one[0] is not None and other[0] is not None:
        return reached.way_parting(presence, one[0], one[1], other[0], other[1])
    field = other[0] if one[0] is None else one[0]
    return reached.way_with(presence, field, _value_apart(reached, presence, one, other))


def _reading(entries, end, kind, presence):
    for field, mapping in entries:
        if field in presence:
            return (field, mapping)
    return end_reading(end, kind)


def _value_apart(reached, presence, one, other):
    """Return the least value of the one field that two readings have at which they differ, None if there is none."""
    field = other[0] if one[0] is None else one[0]
    return one[1].apart(other[1], reached.values_among([presence], field))

"""Harms: what is read behind rows of programs in another way than directly."""

from keptedits.errors import Unlike
from keptedits.graphs import lists_of_own
from keptedits.here import Here
from keptedits.maps import values_apart
from keptedits.readings import reading_of_list, way_apart
from keptedits.sets import full_set, natural

KINDS = ("lost", "made", "changed", "taken", "filled", "reset", "moved")


def harm_kind(direct, behind, document):
    """Return the kind of harm that a document shows of two lists, None if it shows none."""
    _check_alike(direct, behind)
    if direct.at(document) == behind.at(document):
        return None
    presence = list(document)
    return _kind_of(reading_of_list(direct, presence), reading_of_list(behind, presence))


def least_of_kind(direct, behind, kind):
    """Return the least document that shows a kind of harm of two lists, None if there is none."""
    _check_alike(direct, behind)
    return _least_documents(direct, behind, [kind]).get(kind)


def harms(world, name, own, programs=None):
    """Return a tuple (kind, row, document, value, later) for each kind of harm that occurs."""
    lists = lists_of_own(world, name, own, programs)
    direct = lists.first_list()
    found = {}
    for number, row in lists.row_table.items():
        behind = lists.table.list_of(number)
        missing = [kind for kind in KINDS if kind not in found]
        for kind, document in _least_documents(direct, behind, missing).items():
            found[kind] = (kind, list(row), document, direct.at(document), behind.at(document))
    return [found[kind] for kind in KINDS if kind in found]


def is_safe(world, name, own, programs=None):
    """Tell whether an own field has no harm at any document."""
    return lists_of_own(world, name, own, programs).many() == 1


def harms_here(reached, name, own):
    """Return a tuple (kind, row, way, document) for each kind of harm that documents which come about show."""
    lists = lists_of_own(reached.world, name, own)
    here = Here(reached)
    found = {}
    for number, row in lists.row_table.items():
        missing = [kind for kind in KINDS if kind not in found]
        told = _places_by_kind(here, lists.first_list(), lists.table.list_of(number), missing)
        for kind, (place, one, other) in told.items():
            way = way_apart(reached, here.presence_at(place), one, other)
            found[kind] = (kind, list(row), way, reached.document_of(way))
    return [found[kind] for kind in KINDS if kind in found]


def is_safe_here(reached, name, own):
    """Tell whether no document that comes about shows a harm of an own field."""
    lists = lists_of_own(reached.world, name, own)
    return first_harm_here(Here(reached), lists) is None


def first_harm_here(here, lists):
    """Return the first row, and the first presence, at which a document that comes about shows a harm, or None."""
    direct = lists.first_list()
    for number, row in lists.row_table.items():
        found = _places_by_kind(here, direct, lists.table.list_of(number), KINDS)
        if found:
            return (list(row), here.presence_at(min([place for place, _, _ in found.values()])))
    return None


def least_change(elder, later):
    """Return the least document at which an elder list has a value and a later one not this value, or None."""
    found = _least_documents(elder, later, [kind for kind in KINDS if kind != "made"])
    return min(list(found.values()), key=_place_of, default=None)


def _place_of(document):
    fields = sorted(document)
    return (len(fields), fields, [natural(document[field]) for field in fields])


def _check_alike(direct, behind):
    if direct.kind != behind.kind:
        raise Unlike()


def _kind_of(one, other):
    """Return the kind of harm where two readings decide and their values differ, None if both have no value."""
    if one[1] is None or other[1] is None:
        if one[1] == other[1]:
            return None
        return "made" if one[1] is None else "lost"
    if one[0] is None:
        return "moved" if other[0] is None else "filled"
    if other[0] is None:
        return "reset"
    return "changed" if one[0] == other[0] else "taken"


def _least_documents(direct, behind, kinds):
    """Return the dict from those of the kinds that two lists show to the least document of each."""
    found = {}
    if direct == behind:
        return found
    for presence in _small_presences(direct, behind):
        one, other = reading_of_list(direct, presence), reading_of_list(behind, presence)
        kind = _kind_of(one, other)
        # Two fields are needed where two fields decide, and only there.
        if kind in kinds and kind not in found and (kind == "taken") == (len(presence) == 2):
            document = _least_document(presence, one, other, direct.kind)
            if document is not None:
                found[kind] = document
    return found


def _small_presences(direct, behind):
    """Return the presences of at most two fields of two lists, by their size, then sorted."""
    fields = sorted(set(direct.fields() + behind.fields()))
    pairs = [(first, second) for at, first in enumerate(fields) for second in fields[at + 1:]]
    return [()] + [(field,) for field in fields] + pairs


def _least_document(presence, one, other, kind):
    """Return the least document of a presence at which two readings differ, None if there is none."""
    everything = full_set(kind)
    if len(presence) == 2:
        maps = {one[0]: one[1], other[0]: other[1]}
        values = values_apart(maps[presence[0]], everything, maps[presence[1]], everything)
        return None if values is None else {presence[0]: values[0], presence[1]: values[1]}
    value = everything.least()
    if one[1] is not None and other[1] is not None:
        value = one[1].apart(other[1])
    return None if value is None else {field: value for field in presence}


def _places_by_kind(here, direct, behind, kinds):
    """Return the dict from the kinds that documents which come about show to (first place, reading, other reading)."""
    found = {}
    if direct == behind:
        return found
    for one, places in here.parts_of(direct):
        for other, more in here.parts_of(behind):
            kind = _kind_of(one, other)
            if places & more and kind in kinds:
                place = here.first_place_apart(places & more, one, other)
                if place is not None and (kind not in found or place < found[kind][0]):
                    found[kind] = (place, one, other)
    return found

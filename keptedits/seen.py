"""Edits that are seen, and removals that are kept, by a reader behind every row of programs."""

from keptedits.errors import NotRemovable, NotSettable
from keptedits.graphs import ListGraph
from keptedits.here import Here, first_place
from keptedits.maps import constant_map_to
from keptedits.marks import EditedPass
from keptedits.putting import own_list
from keptedits.sets import full_set


def problem(world, writer, edited, name, own):
    """Return the tuple (kind, row, document, value) of the problem of an edit, None if the reader sees it."""
    graph = ListGraph(world, checked_edit(world, writer, edited, name, own))
    return problem_in(world, graph, writer, edited)


def problem_here(reached, writer, edited, name, own):
    """Return the tuple (kind, row, presence) of the problem of an edit where something comes about, or None."""
    graph = ListGraph(reached.world, checked_edit(reached.world, writer, edited, name, own))
    return problem_here_in(reached, graph, writer, edited)


def echo(world, writer, edited, name, own):
    """Return the tuple (row, document) of the echo of a removal, None if it is kept for the reader."""
    graph = ListGraph(world, checked_removal(world, writer, edited, name, own))
    return echo_in(world, graph, writer, edited)


def echo_here(reached, writer, edited, name, own):
    """Return the tuple (row, presence) of the echo of a removal where something comes about, or None."""
    graph = ListGraph(reached.world, checked_removal(reached.world, writer, edited, name, own))
    return echo_here_in(reached, graph, writer, edited)


def problem_in(world, graph, writer, edited):
    """Return the problem of an edit for the reader of a list graph under all programs."""
    step = EditedPass(world, writer, edited, graph.table())
    shorts = graph.shorts()
    first = step.marked(shorts[0][1])
    kind = _first_kind(step, first)
    if kind is not None:
        return (kind, [], {}, step.settable_values().least())
    for row, short in shorts:
        found = step.marked(short)
        kind = _kind_of(step, found, first)
        if kind is not None:
            document = _least_masked(found, graph.first.kind) if kind == "masked" else {}
            return (kind, row, document, _least_missed(step.list_of(found), step.list_of(first), document))
    return None


def problem_here_in(reached, graph, writer, edited):
    """Return the problem of an edit, where something comes about, for the reader of a list graph."""
    if len(reached) == 0:
        return None
    here = Here(reached)
    step = EditedPass(reached.world, writer, edited, graph.table())
    shorts = graph.shorts()
    first = step.marked(shorts[0][1])
    kind = _first_kind(step, first)
    if kind is not None:
        return (kind, [], here.presence_at(0))
    for row, short in shorts:
        kind, place = _kind_here(here, step, step.marked(short), first)
        if kind is not None:
            return (kind, row, here.presence_at(place))
    return None


def echo_in(world, graph, writer, edited):
    """Return the echo of a removal for the reader of a list graph under all programs."""
    own_field = world.program(writer).own_field(edited)
    if own_field.default is None and len(own_field.sources) == 0:
        return None
    step = EditedPass(world, writer, edited, graph.table())
    for row, short in graph.shorts():
        fields = [field for field, _ in step.without(short)[0]]
        if fields:
            presence = _least_echoed(own_field, sorted(fields))
            return (row, {field: full_set(world.kind_of_field(field)).least() for field in presence})
    return None


def echo_here_in(reached, graph, writer, edited):
    """Return the echo of a removal, where something comes about, for the reader of a list graph."""
    own_field = reached.world.program(writer).own_field(edited)
    here = Here(reached)
    having = here.everywhere()
    if own_field.default is None:
        having = here.places_with([field for field, _ in own_field.sources])
    step = EditedPass(reached.world, writer, edited, graph.table())
    for row, short in graph.shorts():
        places = having & here.places_with([field for field, _ in step.without(short)[0]])
        if places:
            return (row, here.presence_at(first_place(places)))
    return None


def checked_edit(world, writer, edited, name, own):
    """Return the list of a reader, behind the checks of an edit that it may see."""
    own_field = world.program(writer).own_field(edited)
    first = own_list(world, name, own)
    if own_field.settable.is_empty:
        raise NotSettable(edited)
    return first


def checked_removal(world, writer, edited, name, own):
    """Return the list of a reader, behind the checks of a removal that may be kept for it."""
    own_field = world.program(writer).own_field(edited)
    first = own_list(world, name, own)
    if not own_field.removable:
        raise NotRemovable(edited)
    return first


def _first_kind(step, first):
    """Return the kind of problem that the edit has without any row, None if it has none."""
    if step.writes_nothing():
        return "unwritten"
    return "unread" if first[2] is None else None


def _kind_of(step, found, first):
    """Return the kind of problem of a marked list beside that of the empty row, None if it has none."""
    entries, _, mark = found
    if mark is None:
        return "lost"
    if entries:
        return "masked"
    # The list of the empty row has a mark and no entry where a list behind it is looked at.
    return None if step.mark_told(mark) == step.mark_told(first[2]) else "changed"


def _kind_here(here, step, found, first):
    """Return the kind of problem of a marked list and the first place that has it, (None, None) if it has none."""
    entries, _, mark = found
    if mark is None:
        return "lost", 0
    masked = here.places_with([field for field, _ in entries])
    if step.mark_told(mark) != step.mark_told(first[2]):
        # Every presence has a problem, the first one, too.
        return ("masked", 0) if masked & 1 else ("changed", 0)
    return ("masked", first_place(masked)) if masked else (None, None)


def _least_masked(found, kind):
    """Return the document with only the first field of an entry, with its least value."""
    return {min([field for field, _ in found[0]]): full_set(kind).least()}


def _least_missed(found, first, document):
    """Return the least settable value at which a list has another value at a document than the first mark tells."""
    values = first.settable
    if found.mark is not None and len(document) == 0:
        return found.mark.apart(first.mark, values)
    worth = found.shows(document, values.least())
    if worth is None:
        return values.least()
    return first.mark.apart(constant_map_to(first.kind, worth), values)


def _least_echoed(own_field, fields):
    """Return the least presence that has one of some sorted fields, and with which an own field has a value."""
    if own_field.default is not None:
        return (fields[0],)
    sources = [field for field, _ in own_field.sources]
    both = [field for field in fields if field in sources]
    if both:
        return (both[0],)
    return min([tuple(sorted([field, source])) for field in fields for source in sources])

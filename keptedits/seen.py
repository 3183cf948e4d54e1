"""Edits that are seen, and removals that are kept, by a reader behind every row of programs."""

from keptedits.errors import NotRemovable, NotSettable
from keptedits.graphs import lists_of_own
from keptedits.here import Here, first_place
from keptedits.maps import constant_map_to
from keptedits.marks import marked_list_of
from keptedits.sets import full_set


def problem(world, writer, edited, name, own):
    """Return the tuple (kind, row, document, value) of the problem of an edit, None if the reader sees it."""
    check_edit_seen(world, writer, edited, name, own)
    return problem_in(lists_of_own(world, name, own), writer, edited)


def problem_here(reached, writer, edited, name, own):
    """Return the tuple (kind, row, presence) of the problem of an edit where something comes about, or None."""
    check_edit_seen(reached.world, writer, edited, name, own)
    return problem_here_in(Here(reached), lists_of_own(reached.world, name, own), writer, edited)


def echo(world, writer, edited, name, own):
    """Return the tuple (row, document) of the echo of a removal, None if it is kept for the reader."""
    check_removal_kept(world, writer, edited, name, own)
    return echo_in(world, lists_of_own(world, name, own), writer, edited)


def echo_here(reached, writer, edited, name, own):
    """Return the tuple (row, presence) of the echo of a removal where something comes about, or None."""
    check_removal_kept(reached.world, writer, edited, name, own)
    return echo_here_in(reached.world, Here(reached), lists_of_own(reached.world, name, own), writer, edited)


def problem_in(lists, writer, edited):
    """Return the problem of an edit for the reader of the lists of a list graph under all programs."""
    step = lists.table.edited_pass(writer, edited)
    first = step.marked(lists.start)
    kind = _first_kind(step, first)
    if kind is not None:
        return (kind, [], {}, step.settable_values().least())
    for number, row in lists.row_table.items():
        found = step.marked(number)
        kind = _kind_of(step, found, first)
        if kind is not None:
            document = _least_masked(found, lists.table.kind) if kind == "masked" else {}
            here, there = marked_list_of(lists.table, step, found), marked_list_of(lists.table, step, first)
            return (kind, list(row), document, _least_missed(here, there, document))
    return None


def problem_here_in(here, lists, writer, edited):
    """Return the problem of an edit, where something comes about, for the reader of the lists of a list graph."""
    if here.everywhere() == 0:
        return None
    step = lists.table.edited_pass(writer, edited)
    first = step.marked(lists.start)
    kind = _first_kind(step, first)
    if kind is not None:
        return (kind, [], here.presence_at(0))
    for number, row in lists.row_table.items():
        kind, place = _kind_here(here, step, step.marked(number), first)
        if kind is not None:
            return (kind, list(row), here.presence_at(place))
    return None


def echo_in(world, lists, writer, edited):
    """Return the echo of a removal for the reader of the lists of a list graph under all programs."""
    own_field = world.program(writer).own_field(edited)
    if own_field.default is None and len(own_field.sources) == 0:
        return None
    step = lists.table.edited_pass(writer, edited)
    for number, row in lists.row_table.items():
        fields = step.fields_without(number)
        if fields:
            presence = _least_echoed(own_field, sorted(fields))
            return (list(row), {field: full_set(world.kind_of_field(field)).least() for field in presence})
    return None


def echo_here_in(world, here, lists, writer, edited):
    """Return the echo of a removal, where something comes about, for the reader of the lists of a list graph."""
    own_field = world.program(writer).own_field(edited)
    having = here.everywhere()
    if own_field.default is None:
        having = here.places_with([field for field, _ in own_field.sources])
    step = lists.table.edited_pass(writer, edited)
    for number, row in lists.row_table.items():
        places = having & here.places_with(step.fields_without(number))
        if places:
            return (list(row), here.presence_at(first_place(places)))
    return None


def check_edit_seen(world, writer, edited, name, own):
    """Raise an error for any values that name no edit and no reader that may see it."""
    own_field = world.program(writer).own_field(edited)
    world.program(name).own_field(own)
    if own_field.settable.is_empty:
        raise NotSettable(edited)


def check_removal_kept(world, writer, edited, name, own):
    """Raise an error for any values that name no removal and no reader for which it may be kept."""
    own_field = world.program(writer).own_field(edited)
    world.program(name).own_field(own)
    if not own_field.removable:
        raise NotRemovable(edited)


def _first_kind(step, first):
    """Return the kind of problem that the edit has without any row, None if it has none."""
    if step.writes_nothing():
        return "unwritten"
    return "unread" if first[2] is None else None


def _kind_of(step, found, first):
    """Return the kind of problem of a marked list beside that of the empty row, None if it has none."""
    entries, _, mark = found
    if mark is None:
        return "lost"
    if entries:
        return "masked"
    # The list of the empty row has a mark and no entry where a list behind it is looked at.
    return None if step.mark_told(mark) == step.mark_told(first[2]) else "changed"


def _kind_here(here, step, found, first):
    """Return the kind of problem of a marked list and the first place that has it, (None, None) if it has none."""
    entries, _, mark = found
    if mark is None:
        return "lost", 0
    masked = here.places_with([field for field, _ in entries])
    if step.mark_told(mark) != step.mark_told(first[2]):
        # Every presence has a problem, the first one, too.
        return ("masked", 0) if masked & 1 else ("changed", 0)
    return ("masked", first_place(masked)) if masked else (None, None)


def _least_masked(found, kind):
    """Return the document with only the first field of an entry, with its least value."""
    return {min([field for field, _ in found[0]]): full_set(kind).least()}


def _least_missed(found, first, document):
    """Return the least settable value at which a list has another value at a document than the first mark tells."""
    values = first.settable
    if found.mark is not None and len(document) == 0:
        return found.mark.apart(first.mark, values)
    worth = found.shows(document, values.least())
    if worth is None:
        return values.least()
    return first.mark.apart(constant_map_to(first.kind, worth), values)


def _least_echoed(own_field, fields):
    """Return the least presence that has one of some sorted fields, and with which an own field has a value."""
    if own_field.default is not None:
        return (fields[0],)
    sources = [field for field, _ in own_field.sources]
    both = [field for field in fields if field in sources]
    if both:
        return (both[0],)
    return min([tuple(sorted([field, source])) for field in fields for source in sources])

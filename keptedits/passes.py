"""Passes: what programs read of a document, and the documents that passes and edits make of it."""

from keptedits.checks import check_document, check_edit
from keptedits.errors import InvalidDocument, InvalidEdit, InvalidStep


def is_document(world, value):
    """Tell whether a value is a document of the world."""
    try:
        check_document(world, value)
    except InvalidDocument:
        return False
    return True


def is_edit(world, name, value):
    """Tell whether a value is an edit of the program of a name."""
    program = world.program(name)
    try:
        check_edit(program, value)
    except InvalidEdit:
        return False
    return True


def read(world, name, document):
    """Return the dict from the own fields that have a value to what the program reads."""
    program = world.program(name)
    check_document(world, document)
    worth = _all_read(program, document)
    return {own: worth[own] for own in worth if worth[own] is not None}


def passed(world, name, document):
    """Return the document behind a pass of the program."""
    program = world.program(name)
    check_document(world, document)
    return _written(world, program, document, {})


def effect(world, name, document, edit):
    """Return those entries of an edit that edit, sorted."""
    program = world.program(name)
    check_document(world, document)
    check_edit(program, edit)
    return _changes(program, document, edit)


def edited(world, name, document, edit):
    """Return the document behind an edited pass of the program."""
    program = world.program(name)
    check_document(world, document)
    check_edit(program, edit)
    return _written(world, program, document, _changes(program, document, edit))


def made_new(world, name, edit=None):
    """Return the document that an edited pass of the program makes of nothing."""
    return edited(world, name, {}, {} if edit is None else edit)


def run(world, steps, document):
    """Return the document behind all steps."""
    taken = _taken_steps(world, steps)
    check_document(world, document)
    current = _copy_of(document)
    for name, edit in taken:
        current = edited(world, name, current, edit)
    return current


def run_all(world, steps, document):
    """Yield the document, then the one behind each step."""
    taken = _taken_steps(world, steps)
    check_document(world, document)
    current = _copy_of(document)
    yield _copy_of(current)
    for name, edit in taken:
        current = edited(world, name, current, edit)
        yield _copy_of(current)


def _taken_steps(world, steps):
    """Return a copy of a list of steps, behind its check."""
    if not isinstance(steps, (list, tuple)):
        raise InvalidStep(-1)
    for position, step in enumerate(steps):
        if not _is_step(world, step):
            raise InvalidStep(position)
    return [(name, dict(edit)) for name, edit in steps]


def _is_step(world, step):
    if not isinstance(step, tuple) or len(step) != 2:
        return False
    return step[0] in world and is_edit(world, step[0], step[1])


def _copy_of(document):
    return {field: document[field] for field in document}


def _value_read(own, document):
    """Return what an own field has of a document, None for nothing."""
    for field, mapping in own.sources:
        if field in document:
            return mapping.at(document[field])
    return own.default


def _all_read(program, document):
    """Return the dict from all own fields to what the program reads, None for nothing."""
    own_fields = program.own_fields()
    return {own: _value_read(own_fields[own], document) for own in own_fields}


def _changes(program, document, edit):
    """Return the entries of an edit that give something else than what the program reads, sorted."""
    worth = _all_read(program, document)
    return {own: edit[own] for own in sorted(edit) if edit[own] != worth[own]}


def _written(world, program, document, changes):
    """Return the document that the program writes behind these changes of what it reads."""
    worth = _all_read(program, document)
    worth.update(changes)
    found = {}
    for field in world.fields():
        value = _value_behind(program, field, document, worth, changes)
        if value is not None:
            found[field] = value
    return found


def _value_behind(program, field, document, worth, changes):
    """Return the value that a field has behind a pass, None if it is absent then."""
    writes = program.writes()
    if field not in writes:
        return document.get(field) if program.keeps else None
    write = writes[field]
    if write is None:
        return None
    if worth[write.own] is not None:
        return write.mapping.at(worth[write.own])
    # A removed own field takes its fields away, also where the write leaves what it knows nothing of.
    if write.leaves and write.own not in changes:
        return document.get(field)
    return None

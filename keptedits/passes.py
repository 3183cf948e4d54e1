"""Passes: what programs read of a document, and the documents that passes and edits make of it."""

from keptedits.checks import check_document, check_edit
from keptedits.errors import InvalidDocument, InvalidEdit, InvalidStep


def is_document(world, value):
    """Tell whether a value is a document of the world."""
    try:
        check_document(world, value)
    except InvalidDocument:
        return False
    return True


def is_edit(world, name, value):
    """Tell whether a value is an edit of the program of a name."""
    program = world.program(name)
    try:
        check_edit(program, value)
    except InvalidEdit:
        return False
    return True


def read(world, name, document):
    """Return the dict from the own fields that have a value to what the program reads."""
    program = world.program(name)
    check_document(world, document)
    worth = _all_read(program, document)
    return {own: worth[own] for own in worth if worth[own] is not None}


def passed(world, name, document):
    """Return the document behind a pass of the program."""
    program = world.program(name)
    check_document(world, document)
    return written(world, program, document, {})


def effect(world, name, document, edit):
    """Return those entries of an edit that edit, sorted."""
    program = world.program(name)
    check_document(world, document)
    check_edit(program, edit)
    return changes_of(program, document, edit)


def edited(world, name, document, edit):
    """Return the document behind an edited pass of the program."""
    program = world.program(name)
    check_document(world, document)
    check_edit(program, edit)
    return written(world, program, document, changes_of(program, document, edit))


def made_new(world, name, edit=None):
    """Return the document that an edited pass of the program makes of nothing."""
    return edited(world, name, {}, {} if edit is None else edit)


def run(world, steps, document):
    """Return the document behind all steps."""
    taken = taken_steps(world, steps)
    check_document(world, document)
    current = _copy_of(document)
    for name, edit in taken:
        current = edited(world, name, current, edit)
    return current


def run_all(world, steps, document):
    """Yield the document, then the one behind each step."""
    taken = taken_steps(world, steps)
    check_document(world, document)
    current = _copy_of(document)
    yield _copy_of(current)
    for name, edit in taken:
        current = edited(world, name, current, edit)
        yield _copy_of(current)


def taken_steps(world, steps):
    """Return a copy of a list of steps, behind its check."""
    if not isinstance(steps, (list, tuple)):
        raise InvalidStep(-1)
    for position, step in enumerate(steps):
        if not _is_step(world, step):
            raise InvalidStep(position)
    return [(name, dict(edit)) for name, edit in steps]


def _is_step(world, step):
    if not isinstance(step, tuple) or len(step) != 2:
        return False
    return step[0] in world and is_edit(world, step[0], step[1])


def _copy_of(document):
    return {field: document[field] for field in document}


def value_read(own, document):
    """Return what an own field has of a document, None for nothing."""
    for field, mapping in own.sources:
        if field in document:
            return mapping.at(document[field])
    return own.default


def changes_of(program, document, edit):
    """Return the entries of an edit that give something else than what the program reads, sorted."""
    worth = _all_read(program, document)
    return {own: edit[own] for own in sorted(edit) if edit[own] != worth[own]}


def written(world, program, document, given):
    """Return the document that a program writes where some own fields are given values, None for removed ones."""
    worth = _all_read(program, document)
    worth.update(given)
    writes = program.writes()
    found = {}
    for field in world.fields():
        if field in writes:
            value = _value_written(writes[field], document.get(field), worth, given)
        else:
            value = document.get(field) if program.keeps else None
        if value is not None:
            found[field] = value
    return found


def _all_read(program, document):
    """Return the dict from all own fields to what the program reads, None for nothing."""
    return {own: value_read(told, document) for own, told in program.own_fields().items()}


def _value_written(write, was, worth, given):
    """Return the value that a known field has behind a pass, None if it is absent then."""
    if write is None:
        return None
    if worth[write.own] is not None:
        return write.mapping.at(worth[write.own])
    # A removed own field takes its fields away, also where the write leaves what it knows nothing of.
    return was if write.leaves and write.own not in given else None

"""What several tests compare with: small drawn worlds, and all documents that running their steps makes."""

from itertools import combinations, product

from keptedits.passes import edited, made_new, passed, read
from keptedits.programs import Own, Program
from keptedits.reached import Beginnings
from keptedits.sets import set_of
from keptedits.worlds import World
from tests.helpers import drawn_document, drawn_value, drawn_world, some_values


def small_world(draw):
    """Return a drawn world in which few values are settable, so that all edits can be run."""
    world = drawn_world(draw)
    return World(world.fields(), [_with_few_settable(draw, program) for program in world.programs()])


def _with_few_settable(draw, program):
    own_fields = {}
    for name, own in program.own_fields().items():
        values = {drawn_value(draw, own.kind) for _ in range(2)}
        settable = set_of(own.kind, *values) if len(values) > 1 and not own.settable.is_empty else None
        own_fields[name] = Own(own.kind, own.sources, default=own.default, settable=settable, removable=own.removable)
    return Program(program.name, own_fields, program.writes(), keeps=program.keeps)


def drawn_beginnings(draw, world):
    """Return drawn beginnings of a world, without "anything"."""
    new = draw.sample(world.names(), draw.randint(0, len(world)))
    return Beginnings(new=new, documents=[drawn_document(draw, world) for _ in range(draw.randint(0, 2))])


def all_edits(world, name):
    """Return all edits of a program with few settable values."""
    choices = []
    for own, told in world.program(name).own_fields().items():
        given = [(own, value) for value in some_values(told.kind) if value in told.settable]
        choices.append([None] + given + ([(own, None)] if told.removable else []))
    return [dict(one for one in some if one is not None) for some in product(*choices)]


def told(document):
    """Return a document as a key."""
    return tuple(sorted(document.items()))


def documents_reached(world, beginnings, most=1500):
    """Return the dict from all documents that come about, as keys, to the fewest steps; None if there are too many."""
    edits = {name: all_edits(world, name) for name in world.names()}
    level = [made_new(world, name, edit) for name in beginnings.new for edit in edits[name]] + beginnings.documents()
    found = {told(document): 0 for document in level}
    steps = 0
    while level:
        steps += 1
        further = []
        for document in level:
            for name in world.names():
                for edit in edits[name]:
                    behind = edited(world, name, document, edit)
                    if told(behind) not in found:
                        found[told(behind)] = steps
                        further.append(behind)
        level = further
        if len(found) > most:
            return None
    return found


def drawn_reached(draw):
    """Return a drawn small world, beginnings, and the dict of the documents that come about."""
    while True:
        world = small_world(draw)
        beginnings = drawn_beginnings(draw, world)
        found = documents_reached(world, beginnings)
        if found is not None:
            return world, beginnings, found


def by_presence(found):
    """Return the dict from presences to the documents among those of documents_reached."""
    grouped = {}
    for one in found:
        grouped.setdefault(tuple(field for field, _ in one), []).append(dict(one))
    return grouped


def all_own(world):
    """Return the pairs of the names of all programs and own fields."""
    return [(program.name, own) for program in world.programs() for own in program.own_fields()]


def rows_up_to(names, most):
    """Return all rows of at most so many of these names, by length, then sorted."""
    return [list(row) for size in range(most + 1) for row in product(sorted(names), repeat=size)]


def behind_row(world, row, document):
    """Return the document behind a row."""
    for name in row:
        document = passed(world, name, document)
    return document


def read_behind(world, row, document, name, own):
    """Return what a program reads behind a row, None for nothing."""
    return read(world, name, behind_row(world, row, document)).get(own)


def small_documents(world, most):
    """Yield all documents with at most so many fields over a small range of values, in the sequence of point 18."""
    fields = sorted(world.fields())
    for size in range(most + 1):
        for some in combinations(fields, size):
            for values in product(*[some_values(world.kind_of_field(field)) for field in some]):
                yield dict(zip(some, values))

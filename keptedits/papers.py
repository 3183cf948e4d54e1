"""Papers: reasons that hold behind rows of any length, and their check."""

from keptedits.graphs import ListGraph
from keptedits.lists import SourceList
from keptedits.marks import EditedPass
from keptedits.putting import own_list
from keptedits.seen import checked_edit, checked_removal
from keptedits.tables import ListTable


def safe_paper(world, name, own):
    """Return a paper that an own field is safe, None if there is none."""
    graph = ListGraph(world, own_list(world, name, own))
    return graph.lists() if len(graph) == 1 else None


def seen_paper(world, writer, edited, name, own):
    """Return a paper that a reader sees an edit, None if there is none."""
    first = checked_edit(world, writer, edited, name, own)
    return _paper_of(world, first, EditCheck(world, writer, edited, first))


def kept_paper(world, writer, edited, name, own):
    """Return a paper that a removal is kept for a reader, None if there is none."""
    first = checked_removal(world, writer, edited, name, own)
    return _paper_of(world, first, RemovalCheck(world, writer, edited))


def is_safe_paper(world, name, own, lists):
    """Tell whether a value is a paper that an own field is safe."""
    first = own_list(world, name, own)
    return _is_closed(world, first, lists) and all([told == first for told in lists])


def is_seen_paper(world, writer, edited, name, own, lists):
    """Tell whether a value is a paper that a reader sees an edit."""
    first = checked_edit(world, writer, edited, name, own)
    return _is_paper(world, first, lists, EditCheck(world, writer, edited, first))


def is_kept_paper(world, writer, edited, name, own, lists):
    """Tell whether a value is a paper that a removal is kept for a reader."""
    first = checked_removal(world, writer, edited, name, own)
    return _is_paper(world, first, lists, RemovalCheck(world, writer, edited))


class EditCheck:
    """Which lists have just a mark when they are put before an edit, the one that the list of the reader has."""

    def __init__(self, world, writer, edited, first):
        self._step = EditedPass(world, writer, edited)
        self._wanted = self._step.marked(first)

    def passes(self, told):
        """Tell whether a list passes."""
        found = self._step.marked(told)
        return found.mark is not None and len(found.entries) == 0 and found.alike(self._wanted)


class RemovalCheck:
    """Which lists have no entry when they are put before a removal."""

    def __init__(self, world, writer, edited):
        self._step = EditedPass(world, writer, edited)

    def passes(self, told):
        """Tell whether a list passes."""
        return len(self._step.without(told)) == 0


def _paper_of(world, first, check):
    lists = ListGraph(world, first).lists()
    return lists if all([check.passes(told) for told in lists]) else None


def _is_paper(world, first, lists, check):
    return _is_closed(world, first, lists) and all([check.passes(told) for told in lists])


def _is_closed(world, first, lists):
    """Tell whether a value is a list of lists of a world, with a first one, and each put back before each pass."""
    if not isinstance(lists, (list, tuple)) or not all([_suits(world, told) for told in lists]):
        return False
    tables = {kind: ListTable(world, kind) for kind in ("number", "text")}
    shorts = {kind: {} for kind in tables}
    for told in lists:
        shorts[told.kind][tables[told.kind].short(told)] = True
    if tables[first.kind].short(first) not in shorts[first.kind]:
        return False
    for kind, table in tables.items():
        for short in shorts[kind]:
            if not all([table.before(name, short) in shorts[kind] for name in world.names()]):
                return False
    return True


def _suits(world, told):
    """Tell whether a value is a source list over fields of a world."""
    kinds = world.fields()
    return isinstance(told, SourceList) and all([kinds.get(field) == told.kind for field in told.fields()])

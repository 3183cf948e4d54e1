"""Papers: reasons that hold behind rows of any length, and their check."""

from keptedits.graphs import ListGraph
from keptedits.lists import SourceList
from keptedits.marks import EditedPass
from keptedits.putting import own_list
from keptedits.seen import checked_edit, checked_removal
from keptedits.tables import ListTable

OTHER_KIND = {"number": "text", "text": "number"}


def safe_paper(world, name, own):
    """Return a paper that an own field is safe, None if there is none."""
    graph = ListGraph(world, own_list(world, name, own))
    return graph.lists() if len(graph) == 1 else None


def seen_paper(world, writer, edited, name, own):
    """Return a paper that a reader sees an edit, None if there is none."""
    graph = ListGraph(world, checked_edit(world, writer, edited, name, own))
    return _paper_of(graph, EditCheck(world, writer, edited, graph.table(), graph.first))


def kept_paper(world, writer, edited, name, own):
    """Return a paper that a removal is kept for a reader, None if there is none."""
    graph = ListGraph(world, checked_removal(world, writer, edited, name, own))
    return _paper_of(graph, RemovalCheck(world, writer, edited, graph.table()))


def is_safe_paper(world, name, own, lists):
    """Tell whether a value is a paper that an own field is safe."""
    first = own_list(world, name, own)
    return PaperLists(world, first, lists).is_closed() and all([told == first for told in lists])


def is_seen_paper(world, writer, edited, name, own, lists):
    """Tell whether a value is a paper that a reader sees an edit."""
    first = checked_edit(world, writer, edited, name, own)
    told = PaperLists(world, first, lists)
    # A list of another kind than the reader's has no mark, or none that is alike with its mark.
    if not told.is_closed() or told.shorts_of(OTHER_KIND[first.kind]):
        return False
    check = EditCheck(world, writer, edited, told.table_of(first.kind), first)
    return all([check.passes(short) for short in told.shorts_of(first.kind)])


def is_kept_paper(world, writer, edited, name, own, lists):
    """Tell whether a value is a paper that a removal is kept for a reader."""
    first = checked_removal(world, writer, edited, name, own)
    told = PaperLists(world, first, lists)
    if not told.is_closed():
        return False
    for kind in ("number", "text"):
        check = RemovalCheck(world, writer, edited, told.table_of(kind))
        if not all([check.passes(short) for short in told.shorts_of(kind)]):
            return False
    return True


class EditCheck:
    """Which lists have just a mark when they are put before an edit, the one that the list of the reader has."""

    def __init__(self, world, writer, edited, table, first):
        self._step = EditedPass(world, writer, edited, table)
        self._wanted = self._step.mark_told(self._step.marked(table.short(first))[2])

    def passes(self, short):
        """Tell whether a list in its short form passes."""
        entries, _, mark = self._step.marked(short)
        return mark is not None and len(entries) == 0 and self._step.mark_told(mark) == self._wanted


class RemovalCheck:
    """Which lists have no entry when they are put before a removal."""

    def __init__(self, world, writer, edited, table):
        self._step = EditedPass(world, writer, edited, table)

    def passes(self, short):
        """Tell whether a list in its short form passes."""
        return len(self._step.without(short)[0]) == 0


class PaperLists:
    """A value that may be a paper: its lists by their kinds, in the short form of a table for each kind."""

    def __init__(self, world, first, lists):
        self._names = world.names()
        self._shorts = {"number": {}, "text": {}}
        self._tables = {}
        self._first_kind = first.kind
        self._is_list = isinstance(lists, (list, tuple)) and all([_suits(world, told) for told in lists])
        if self._is_list:
            for kind in list(self._shorts):
                some = [told for told in lists if told.kind == kind]
                self._tables[kind] = ListTable(world, kind, some)
                self._shorts[kind] = {self._tables[kind].short(told): True for told in some}
            self._first = self._tables[first.kind].short(first)

    def is_closed(self):
        """Tell whether the lists contain the first one and, with each list, that put back before each pass."""
        if not self._is_list or self._first not in self._shorts[self._first_kind]:
            return False
        for kind, table in self._tables.items():
            shorts = self._shorts[kind]
            for name in self._names:
                if not all([table.before(name, short) in shorts for short in shorts]):
                    return False
        return True

    def shorts_of(self, kind):
        """Return the lists of a kind."""
        return list(self._shorts[kind])

    def table_of(self, kind):
        """Return the table of a kind."""
        return self._tables[kind]


def _paper_of(graph, check):
    return graph.lists() if all([check.passes(short) for _, short in graph.shorts()]) else None


def _suits(world, told):
    """Tell whether a value is a source list over fields of a world."""
    kinds = world.fields()
    return isinstance(told, SourceList) and all([kinds.get(field) == told.kind for field in told.fields()])

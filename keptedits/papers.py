"""Papers: reasons that hold behind rows of any length, and their check."""

from keptedits.graphs import lists_of_own
from keptedits.lists import SourceList
from keptedits.putting import own_list
from keptedits.seen import check_edit_seen, check_removal_kept
from keptedits.tables import table_telling

OTHER_KIND = {"number": "text", "text": "number"}


def safe_paper(world, name, own):
    """Return a paper that an own field is safe, None if there is none."""
    lists = lists_of_own(world, name, own)
    return lists.lists() if lists.many() == 1 else None


def seen_paper(world, writer, edited, name, own):
    """Return a paper that a reader sees an edit, None if there is none."""
    check_edit_seen(world, writer, edited, name, own)
    lists = lists_of_own(world, name, own)
    return _paper_of(lists, EditCheck(lists.table, writer, edited, lists.first_list()))


def kept_paper(world, writer, edited, name, own):
    """Return a paper that a removal is kept for a reader, None if there is none."""
    check_removal_kept(world, writer, edited, name, own)
    lists = lists_of_own(world, name, own)
    return _paper_of(lists, RemovalCheck(lists.table, writer, edited))


def is_safe_paper(world, name, own, lists):
    """Tell whether a value is a paper that an own field is safe."""
    first = own_list(world, name, own)
    return PaperLists(world, first, lists).is_closed() and all([told == first for told in lists])


def is_seen_paper(world, writer, edited, name, own, lists):
    """Tell whether a value is a paper that a reader sees an edit."""
    check_edit_seen(world, writer, edited, name, own)
    first = own_list(world, name, own)
    told = PaperLists(world, first, lists)
    # A list of another kind than the reader's has no mark, or none that is alike with its mark.
    if not told.is_closed() or told.lists_of(OTHER_KIND[first.kind]):
        return False
    check = EditCheck(told.table_of(first.kind), writer, edited, first)
    return all([check.passes(number) for number in told.lists_of(first.kind)])


def is_kept_paper(world, writer, edited, name, own, lists):
    """Tell whether a value is a paper that a removal is kept for a reader."""
    check_removal_kept(world, writer, edited, name, own)
    told = PaperLists(world, own_list(world, name, own), lists)
    if not told.is_closed():
        return False
    for kind in ("number", "text"):
        check = RemovalCheck(told.table_of(kind), writer, edited)
        if not all([check.passes(number) for number in told.lists_of(kind)]):
            return False
    return True


class EditCheck:
    """Which lists have just a mark when they are put before an edit, the one that the list of the reader has."""

    def __init__(self, table, writer, edited, first):
        self._step = table.edited_pass(writer, edited)
        self._wanted = self._step.mark_told(self._step.marked(table.number_of_list(first))[2])

    def passes(self, number):
        """Tell whether the list of a number passes."""
        entries, _, mark = self._step.marked(number)
        return mark is not None and len(entries) == 0 and self._step.mark_told(mark) == self._wanted


class RemovalCheck:
    """Which lists have no entry when they are put before a removal."""

    def __init__(self, table, writer, edited):
        self._step = table.edited_pass(writer, edited)

    def passes(self, number):
        """Tell whether the list of a number passes."""
        return len(self._step.fields_without(number)) == 0


class PaperLists:
    """A value that may be a paper: its lists by their kinds, as numbers in a table for each kind."""

    def __init__(self, world, first, lists):
        self._names = world.names()
        self._numbers_told = {}
        self._tables = {}
        self._first_kind = first.kind
        self._is_list = isinstance(lists, (list, tuple)) and all([_suits(world, told) for told in lists])
        if self._is_list:
            for kind in ("number", "text"):
                some = [told for told in lists if told.kind == kind]
                self._tables[kind] = table_telling(world, kind, some)
                self._numbers_told[kind] = {self._tables[kind].number_of_list(told): True for told in some}
            self._first = self._tables[first.kind].number_of_list(first)

    def is_closed(self):
        """Tell whether the lists contain the first one and, with each list, that put back before each pass."""
        if not self._is_list or self._first not in self._numbers_told[self._first_kind]:
            return False
        for kind, table in self._tables.items():
            told = self._numbers_told[kind]
            for name in self._names:
                if not all([table.pass_of(name).before(number) in told for number in told]):
                    return False
        return True

    def lists_of(self, kind):
        """Return the numbers of the lists of a kind."""
        return list(self._numbers_told[kind])

    def table_of(self, kind):
        """Return the table of a kind."""
        return self._tables[kind]


def _paper_of(lists, check):
    return lists.lists() if all([check.passes(number) for number in lists.row_table]) else None


def _suits(world, told):
    """Tell whether a value is a source list over fields of a world."""
    kinds = world.fields()
    return isinstance(told, SourceList) and all([kinds.get(field) == told.kind for field in told.fields()])

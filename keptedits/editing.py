"""Passes in which one own field is edited, before which lists are put back by their numbers."""


class EditedPass:
    """A pass of a program in which one own field is edited.

    A marked list is a tuple (entries, end, number of the mark) here, of which the end or the mark is None.
    """

    def __init__(self, program, own, pass_lists, maps):
        self._own_field = program.own_field(own)
        self._pass_lists = pass_lists
        self._cell_maps = maps
        self._written = {}
        for field, write in program.writes().items():
            if write is not None and write.own == own:
                # None for a write of another kind than that of the lists, which then do not have its field.
                self._written[field] = maps.number_of_map(write.mapping) if maps.kind == write.mapping.kind else None
        self._places = maps.places_of(self._own_field.settable) if maps.kind == self._own_field.kind else []
        self._marks = {}
        self._marked_lists = {}
        self._removed_lists = {}

    def writes_nothing(self):
        """Tell whether the program writes no field from the edited own field."""
        return len(self._written) == 0

    def settable_values(self):
        """Return the settable values of the edited own field."""
        return self._own_field.settable

    def marked(self, number):
        """Return the list of a number, put before an edit that gives a value, as a marked list."""
        if number not in self._marked_lists:
            found, end, mark = self._put_through(number, True)
            if mark is not None:
                fixed = self._mark_parts(mark)[0]
                end, mark = (None, mark) if fixed is None else (fixed, None)
            entries, end = self._cell_maps.list_told(self._cell_maps.number_of_entries(found, end))
            self._marked_lists[number] = (entries, end, mark)
        return self._marked_lists[number]

    def fields_without(self, number):
        """Return the fields of the entries of the list of a number, put before a removal."""
        return [field for field, _ in self._cell_maps.list_told(self.without(number))[0]]

    def without(self, number):
        """Return the number of the list of a number, put before a removal."""
        if number not in self._removed_lists:
            found, end, _ = self._put_through(number, False)
            self._removed_lists[number] = self._cell_maps.number_of_entries(found, end)
        return self._removed_lists[number]

    def mark_told(self, mark):
        """Return what tells marks apart at the settable values, None for no mark."""
        return None if mark is None else self._mark_parts(mark)[1]

    def _mark_parts(self, mark):
        """Return the one value to which a mark takes all settable values, or None, and what tells it apart."""
        if mark not in self._marks:
            self._marks[mark] = self._cell_maps.taken_among(mark, self._places)
        return self._marks[mark]

    def _put_through(self, number, is_given):
        """Return the entries, the end and the mark of a list put before the edit, which gives a value or removes."""
        entries, end = self._cell_maps.list_told(number)
        found = {}
        for entry in entries:
            if entry[0] not in self._written:
                brought = self._pass_lists.put_entry_back(entry, found)
                if brought is not None:
                    return tuple(found.items()), brought, None
            elif is_given:
                return tuple(found.items()), None, self._cell_maps.followed(self._written[entry[0]], entry[1])
        return tuple(found.items()), end, None

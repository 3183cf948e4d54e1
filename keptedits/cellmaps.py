"""Maps and source lists of one kind, each with a number, for putting lists back many times."""

from keptedits.cells import NumberCells, TextCells
from keptedits.lists import normal_entries, normal_list


class CellMaps:
    """Maps, kept as the tuples of places of their cells, and normal lists of them, each with a number.

    A list is told by its entries, a tuple of (field, number of a map), and its end.
    """

    def __init__(self, kind, cuts):
        self._map_kind = kind
        self._cells = NumberCells(cuts) if kind == "number" else TextCells(cuts)
        self._takings = []
        self._constants = []
        self._numbers = {}
        self._maps = {}
        self._composed = []
        self._told = []
        self._list_numbers = {}
        self._lists = {}
        self.same_number = self._number_of(tuple(range(self._cells.count_cells())))

    @property
    def kind(self):
        """The kind of the maps and lists."""
        return self._map_kind

    def number_of_map(self, mapping):
        """Return the number of a map, None if the cells do not suffice to tell it."""
        taking = self._cells.places_taken(mapping)
        return None if taking is None else self._number_of(taking)

    def map_at(self, number):
        """Return the map of a number."""
        if number not in self._maps:
            self._maps[number] = self._cells.map_of(self._takings[number])
        return self._maps[number]

    def has_cuts(self, cuts):
        """Tell whether the cells suffice for what some cuts tell."""
        return self._cells.has_cuts(cuts)

    def tells_value(self, value):
        """Tell whether a value, or None, has a cell of its own, as those of defaults and ends need."""
        return value is None or self._cells.place_of(value) is not None

    def places_of(self, values):
        """Return the places of the cells of a set, whose bounds are bounds of cells."""
        return self._cells.places_within(values)

    def value_taken(self, number, value):
        """Return the value to which the map of a number takes a value, which has a cell of its own."""
        return self._cells.value_at(self._takings[number][self._cells.place_of(value)])

    def taken_among(self, number, places):
        """Return the one value to which a map takes some cells, or None, and what tells the map apart there."""
        taking = self._takings[number]
        told = tuple([taking[place] for place in places])
        return (self._cells.value_at(told[0]) if told.count(told[0]) == len(told) else None, told)

    def followed(self, one, other):
        """Return the number of the map of one number, then that of the other."""
        known = self._composed[other]
        if one not in known:
            behind = self._takings[other]
            known[one] = self._number_of(tuple([behind[place] for place in self._takings[one]]))
        return known[one]

    def number_of_entries(self, entries, end):
        """Return the number of the list that some entries and an end make."""
        told = (entries, end)
        number = self._list_numbers.get(told)
        if number is None:
            constants = [self._constants[one] for _, one in entries]
            normal = (tuple(normal_entries(entries, constants, end)), end)
            number = self._list_numbers.setdefault(normal, len(self._told))
            if number == len(self._told):
                self._told.append(normal)
            self._list_numbers[told] = number
        return number

    def count_lists(self):
        """Return how many lists have a number."""
        return len(self._told)

    def list_told(self, number):
        """Return the tuple (entries, end) of the list of a number."""
        return self._told[number]

    def list_of(self, number):
        """Return the source list of a number."""
        if number not in self._lists:
            entries, end = self._told[number]
            told = [(field, self.map_at(one)) for field, one in entries]
            self._lists[number] = normal_list(self._map_kind, told, end)
        return self._lists[number]

    def number_of_list(self, told):
        """Return the number of a source list, None if the cells do not suffice to tell it."""
        entries = tuple([(field, self.number_of_map(mapping)) for field, mapping in told.entries])
        if None in [number for _, number in entries] or not self.tells_value(told.end):
            return None
        return self.number_of_entries(entries, told.end)

    def known_number(self, told):
        """Return the number of a source list, None if it has none yet."""
        found = []
        for field, mapping in told.entries:
            found = found + [(field, self._numbers.get(self._cells.places_taken(mapping)))]
        return self._list_numbers.get((tuple(found), told.end))

    def _number_of(self, taking):
        if taking not in self._numbers:
            self._numbers[taking] = len(self._takings)
            self._takings.append(taking)
            self._composed.append({})
            is_constant = taking.count(taking[0]) == len(taking)
            self._constants.append(self._cells.value_at(taking[0]) if is_constant else None)
        return self._numbers[taking]

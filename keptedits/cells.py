"""Cells: groups of values that the maps of a world do not tell apart.

A map over cells is a tuple of places: for each cell the place of the cell to which its values are taken. A cell of
several values is taken to itself, each value to itself, or to a cell of one value.
"""

from keptedits.maps import NumberMap, TextMap


class NumberCells:
    """Stretches of integers that follow each other; the cuts are integers at which one begins."""

    def __init__(self, cuts):
        firsts = sorted(set(cuts))
        self._begins = {None: 0}
        self._finishes = {None: len(firsts)}
        self._stretches = []
        for place, first in enumerate(firsts):
            self._begins[first] = place + 1
            self._finishes[first - 1] = place
            self._stretches.append((firsts[place - 1] if place > 0 else None, first - 1))
        self._stretches.append((firsts[-1] if firsts else None, None))

    def has_cuts(self, cuts):
        """Tell whether these cuts are among those of the cells."""
        return all([cut in self._begins for cut in cuts])

    def count_cells(self):
        """Return how many cells there are."""
        return len(self._stretches)

    def value_at(self, place):
        """Return the value of a cell with one value, None for any other cell."""
        first, last = self._stretches[place]
        return first if first == last else None

    def place_of(self, value):
        """Return the place of the cell with just this value, None if there is none."""
        place = self._begins.get(value)
        return place if place is not None and self._finishes.get(value) == place else None

    def places_taken(self, mapping):
        """Return the tuple of places of a map, None if the cells do not suffice to tell it."""
        parts = mapping.parts()
        for first, last, what in parts:
            if first not in self._begins or last not in self._finishes:
                return None
            if what is not None and self.place_of(what) is None:
                return None
        return tuple([place if what is None else self._begins[what] for first, last, what in parts
                      for place in range(self._begins[first], self._finishes[last] + 1)])

    def places_within(self, values):
        """Return the places of the cells of a set, whose bounds are bounds of cells."""
        return [place for first, last in values.stretches()
                for place in range(self._begins[first], self._finishes[last] + 1)]

    def map_of(self, taking):
        """Return the map of a tuple of places."""
        pieces = []
        for place, (first, last) in enumerate(self._stretches):
            what = None if taking[place] == place else self._stretches[taking[place]][0]
            if pieces and pieces[-1][2] == what:
                pieces[-1] = (pieces[-1][0], last, what)
            else:
                pieces.append((first, last, what))
        return NumberMap(pieces)


class TextCells:
    """A cell for each of some texts, and a last one for all others."""

    def __init__(self, words):
        self._words = sorted(set(words))
        self._places = {word: place for place, word in enumerate(self._words)}

    def has_cuts(self, words):
        """Tell whether these texts are among those that have cells."""
        return all([word in self._places for word in words])

    def count_cells(self):
        """Return how many cells there are."""
        return len(self._words) + 1

    def value_at(self, place):
        """Return the value of a cell with one value, None for any other cell."""
        return self._words[place] if place < len(self._words) else None

    def place_of(self, value):
        """Return the place of the cell with just this value, None if there is none."""
        return self._places.get(value)

    def places_taken(self, mapping):
        """Return the tuple of places of a map, None if the cells do not suffice to tell it."""
        exceptions, rest = mapping.exceptions(), mapping.rest
        needed = list(exceptions) + list(exceptions.values()) + ([] if rest is None else [rest])
        if not all([word in self._places for word in needed]):
            return None
        others = len(self._words) if rest is None else self._places[rest]
        results = [exceptions.get(word, word if rest is None else rest) for word in self._words]
        return tuple([self._places[result] for result in results] + [others])

    def places_within(self, values):
        """Return the places of the cells of a set, whose words have cells of their own."""
        places = [self._places[word] for word in values.words()]
        if not values.others:
            return places
        return [place for place in range(len(self._words) + 1) if place not in places]

    def map_of(self, taking):
        """Return the map of a tuple of places."""
        others = taking[len(self._words)]
        exceptions = {word: self._words[taking[place]] for place, word in enumerate(self._words)}
        return TextMap(exceptions, None if others == len(self._words) else self._words[others])


def cuts_of_program(program, kind):
    """Return the cuts, or words, that tell the maps, defaults and settable values of a kind of a program."""
    found = []
    for own in program.own_fields().values():
        if own.kind == kind:
            found.extend(cuts_of_entries(own.sources, own.default))
            found.extend(cuts_of_set(own.settable))
    for write in program.writes().values():
        if write is not None and write.mapping.kind == kind:
            found.extend(cuts_of_map(write.mapping))
    return found


def cuts_of_entries(entries, end):
    """Return the cuts, or words, that tell the maps of some entries and an end."""
    found = [cut for _, mapping in entries for cut in cuts_of_map(mapping)]
    return found if end is None else found + cuts_around(end)


def cuts_of_map(mapping):
    """Return the cuts, or words, that tell a map."""
    if mapping.kind == "text":
        exceptions = mapping.exceptions()
        return list(exceptions) + list(exceptions.values()) + ([] if mapping.rest is None else [mapping.rest])
    found = []
    for first, _, what in mapping.parts():
        if first is not None:
            found.append(first)
        if what is not None:
            found.extend([what, what + 1])
    return found


def cuts_of_set(values):
    """Return the cuts, or words, that tell the bounds of a set."""
    if values.kind == "text":
        return values.words()
    found = []
    for first, last in values.stretches():
        found.extend(([] if first is None else [first]) + ([] if last is None else [last + 1]))
    return found


def cuts_around(value):
    """Return the cuts, or the word, that tell a value from all others."""
    return [value, value + 1] if isinstance(value, int) else [value]

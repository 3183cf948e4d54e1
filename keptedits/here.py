"""What lists tell at the presences that come about, of which many at once are an integer with a bit for each."""

from keptedits.readings import can_be_apart, end_reading
from keptedits.tables import MapTable


class Here:
    """The presences that come about, each at its place in the sequence of Reached.presences."""

    def __init__(self, reached):
        self._reached = reached
        self._presences = reached.presences()
        self._everywhere = (1 << len(self._presences)) - 1
        self._having = {field: 0 for field in reached.world.fields()}
        for place, presence in enumerate(self._presences):
            for field in presence:
                self._having[field] |= 1 << place
        self._maps = MapTable()
        self._first_places = {}

    def presence_at(self, place):
        """Return the presence at a place."""
        return self._presences[place]

    def everywhere(self):
        """Return the places of all presences."""
        return self._everywhere

    def places_with(self, fields):
        """Return the places of the presences that have one of these fields."""
        found = 0
        for field in fields:
            found |= self._having[field]
        return found

    def parts_of(self, told):
        """Return the tuples (reading, places) of a source list."""
        found = []
        rest = self._everywhere
        for field, mapping in told.entries:
            found.append(((field, mapping), rest & self._having[field]))
            rest &= ~self._having[field]
        found.append((end_reading(told.end, told.kind), rest))
        return [(reading, places) for reading, places in found if places]

    def first_place_apart(self, places, one, other):
        """Return the first of some places at which two readings differ in a document that comes about, or None."""
        asked = (places, one[0], self._number_of(one[1]), other[0], self._number_of(other[1]))
        if asked not in self._first_places:
            self._first_places[asked] = self._found_first(places, one, other)
        return self._first_places[asked]

    def _number_of(self, mapping):
        return None if mapping is None else self._maps.number_of(mapping)

    def _found_first(self, places, one, other):
        if one == other:
            return None
        for place in places_in(places):
            if can_be_apart(self._reached, self._presences[place], one, other):
                return place
        return None


def first_place(places):
    """Return the first one of some places."""
    return (places & -places).bit_length() - 1


def places_in(places):
    """Return the list of some places, ascending."""
    found = []
    while places:
        found.append(first_place(places))
        places &= places - 1
    return found

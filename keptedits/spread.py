"""Presences that come about, and the values that single fields have in documents with them."""

from keptedits.atoms import image


class Fact:
    """Why some values come about.

    The values are one_bits of a field, or all pairs of one_bits and other_bits of two fields, or, where other_bits is
    None, pairs of equal values. They came by routes from values in given (by two routes from a Relation of values).
    The cause is a tuple: ("any",), ("document", position), or ("new" or "step", presence ahead, program, end).
    """

    def __init__(self, one_bits, other_bits, cause, routes=(), given=None):
        self.one_bits = one_bits
        self.other_bits = other_bits
        self.cause = cause
        self.routes = routes
        self.given = given


class Spread:
    """The presences that come about, as integers, and, from the first question on, the values of each field."""

    def __init__(self, world, beginnings):
        self._names = world.names()
        self._kinds = world.fields()
        self._documents = beginnings.documents()
        self._new = beginnings.new
        self._anything = beginnings.anything
        plans = world.plans(self._documents)
        self._spots = plans.spots
        self._atoms = plans.atoms
        self._plans = {name: plans.plan(number) for name, number in world.program_numbers().items()}
        self._causes = {}
        self._known_bits = {}
        self._reasons = {}
        self._pending = {}
        self._is_spread = False
        self._find_presences()

    def presences(self):
        """Return the presences that come about."""
        return list(self._causes)

    def cause_of(self, presence):
        """Return the cause of a presence that comes about, with the fewest steps."""
        return self._causes[presence]

    def can_be_any(self):
        """Tell whether all documents come about."""
        return self._anything

    def bits_of_fields(self, fields):
        """Return the presence of some fields as an integer."""
        return sum([self._spots[field] for field in fields])

    def fields_of(self, presence):
        """Return the sorted tuple of the fields of a presence."""
        return tuple([field for field in self._kinds if self._spots[field] & presence])

    def atoms_for(self, field):
        """Return the atoms of the kind of a field."""
        return self._atoms[self._kinds[field]]

    def are_of_one_kind(self, one, other):
        """Tell whether two fields are of one kind."""
        return self._kinds[one] == self._kinds[other]

    def pairs_of_fields(self, presence):
        """Return the pairs of fields of one kind of a presence."""
        fields = self.fields_of(presence)
        return [(one, other) for at, one in enumerate(fields) for other in fields[at + 1:]
                if self.are_of_one_kind(one, other)]

    def move(self, presence, name):
        """Return the move of a program from a presence."""
        return self._plans[name].move(presence)

    def starts(self):
        """Return the tuples (cause, name, presence ahead) of the steps that begin, and of those from all presences."""
        found = [("new", name, 0) for name in self._new]
        for presence in self._causes:
            found.extend([("step", name, presence) for name in self._names])
        return found

    def documents_with_presences(self):
        """Return the tuples (position, presence, document) of the given documents."""
        return [(position, self.bits_of_fields(list(document)), document)
                for position, document in enumerate(self._documents)]

    def values_bits(self, presence, field):
        """Return the bits of the values that a field has in documents of a presence."""
        if self._anything:
            return self.atoms_for(field).everything() if self._spots[field] & presence else 0
        self._spread_values()
        return self._known_bits.get((presence, field), 0)

    def fact_about(self, presence, field, bit):
        """Return the fact that first tells an atom of a field, where not all documents come about."""
        self._spread_values()
        for fact in self._reasons[(presence, field)]:
            if fact.one_bits & bit:
                return fact
        return None

    def _find_presences(self):
        if self._anything:
            for presence in range(1 << len(self._kinds)):
                self._causes[presence] = ("any",)
            return
        for position, presence, _ in self.documents_with_presences():
            self._causes.setdefault(presence, ("document", position))
        level = list(self._causes)
        for name in self._new:
            level.extend(self._found_by("new", name, 0))
        while level:
            further = []
            for presence in list(level):
                for name in self._names:
                    further.extend(self._found_by("step", name, presence))
            level = further

    def _found_by(self, how, name, presence):
        """Return the presences that are found first by the steps of a program from a presence."""
        found = []
        for place, end in enumerate(self.move(presence, name).ends):
            if end not in self._causes:
                self._causes[end] = (how, presence, name, place)
                found.append(end)
        return found

    def _spread_values(self):
        if self._is_spread:
            return
        self._is_spread = True
        for position, presence, document in self.documents_with_presences():
            for field, value in document.items():
                self._tell((presence, field), self.atoms_for(field).bit_of(value), ("document", position))
        for how, name, presence in self.starts():
            for route, ends in self.move(presence, name).routes_from(None):
                self._send((how, presence, name), route, ends, route.raw)
        while self._pending:
            pending = self._pending
            self._pending = {}
            for asked, bits in pending.items():
                self._send_on(asked, bits)

    def _send_on(self, asked, bits):
        """Send new values of a field through the steps of all programs."""
        presence, field = asked
        for name in self._names:
            for route, ends in self.move(presence, name).routes_from(field):
                self._send(("step", presence, name), route, ends, bits)

    def _send(self, start, route, ends, bits):
        """Send values along a route to all of its ends."""
        results = image(route.taking, bits)
        for place, end in ends:
            asked = (end, route.target)
            if results & ~self._known_bits.get(asked, 0):
                self._tell(asked, results, start + (place,), (route,), bits)

    def _tell(self, asked, bits, cause, routes=(), given=None):
        """Keep values of a field as far as they are new, with the reason."""
        rest = bits & ~self._known_bits.get(asked, 0)
        if rest:
            self._known_bits[asked] = self._known_bits.get(asked, 0) | rest
            self._reasons.setdefault(asked, []).append(Fact(rest, None, cause, routes, given))
            self._pending[asked] = self._pending.get(asked, 0) | rest

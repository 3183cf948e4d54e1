"""Moves: what the steps of a program make of the documents with one presence.

A presence is an integer with a bit for each field. A set of values is an integer with a bit for each atom.
"""

from keptedits.atoms import taking_both


class Route:
    """How a field gets its value behind a step: from a field ahead of it, from an edit or from a default.

    The value comes from source, a field, or else it is one of raw; then it is taken by maps, as taking tells of atoms.
    """

    def __init__(self, target, owner, source, raw, maps, taking, given):
        self.target = target
        self.by_own = owner
        self.source = source
        self.raw = raw
        self.maps = maps
        self.taking = taking
        self.given = given


class Choice:
    """What an own field may be in a step: the fields that it makes present, their routes, and perhaps its edit."""

    def __init__(self, bits, routes, edit):
        self.bits = bits
        self.routes = routes
        self.edit = edit


class Move:
    """The steps of a program from one presence: the ends (presence, edits) and the routes with the ends that they have.

    The edits are a dict from own fields to True, which stands for any settable value, or False, for a removal.
    """

    def __init__(self, ends, routes):
        self.ends = ends
        self.routes = routes


class OwnPlan:
    """What an own field does for the fields that its program writes from it, for any presence."""

    def __init__(self, name, own, written, spots, atoms):
        self._name = name
        self._removable = own.removable
        self._bits = sum([spots[field] for field in written])
        self._by_source = []
        for field, mapping in own.sources:
            self._by_source.append((spots[field], self._routes_from(field, mapping, written, atoms)))
        self._by_default = None
        if own.default is not None:
            self._by_default = self._routes_of(atoms.bit_of(own.default), False, written, atoms)
        self._by_edit = []
        if not own.settable.is_empty:
            self._by_edit = self._routes_of(atoms.bits_of(own.settable), True, written, atoms)
        leaving = [field for field in written if written[field].leaves]
        self._by_leaving = [(spots[field], staying_route(field, atoms)) for field in leaving]

    def choices(self, presence):
        """Return what the own field may be in a step from a presence."""
        routes = self._read(presence)
        if routes is not None:
            found = [Choice(self._bits, routes + self._by_edit, None)]
            return found + ([Choice(0, [], False)] if self._removable else [])
        leaving = [(bit, route) for bit, route in self._by_leaving if bit & presence]
        found = [Choice(sum([bit for bit, _ in leaving]), [route for _, route in leaving], None)]
        return found + ([Choice(self._bits, self._by_edit, True)] if len(self._by_edit) > 0 else [])

    def owner(self):
        """Return the name of the own field."""
        return self._name

    def _read(self, presence):
        """Return the routes of what is read, None if the own field has nothing."""
        for bit, routes in self._by_source:
            if bit & presence:
                return routes
        return self._by_default

    def _routes_from(self, source, mapping, written, atoms):
        """Return the routes that take the value of a field to the written fields."""
        found = []
        for field, write in written.items():
            taking = taking_both(atoms.taking_of(mapping), atoms.taking_of(write.mapping))
            found.append(Route(field, self._name, source, 0, (mapping, write.mapping), taking, False))
        return found

    def _routes_of(self, raw, given, written, atoms):
        """Return the routes that take a default, or what an edit gives, to the written fields."""
        found = []
        for field, write in written.items():
            taking = atoms.taking_of(write.mapping)
            found.append(Route(field, self._name, None, raw, (write.mapping,), taking, given))
        return found


class Plan:
    """What a program does in its steps, for any presence."""

    def __init__(self, program, kinds, spots, atoms):
        writes = program.writes()
        unknown = [field for field in kinds if field not in writes and program.keeps]
        self._kept = [(spots[field], staying_route(field, atoms[kinds[field]])) for field in unknown]
        self._owns = []
        for name, own in program.own_fields().items():
            written = {field: write for field, write in writes.items() if write is not None and write.own == name}
            if written:
                self._owns.append(OwnPlan(name, own, written, spots, atoms[own.kind]))

    def move(self, presence):
        """Return the move from a presence."""
        kept = [(bit, route) for bit, route in self._kept if bit & presence]
        chosen = [own.choices(presence) for own in self._owns]
        ends = [(sum([bit for bit, _ in kept]), ())]
        for choices in chosen:
            ends = [(end | choice.bits, picks + (pick,)) for end, picks in ends for pick, choice in enumerate(choices)]
        routes = [(route, (1 << len(ends)) - 1) for _, route in kept]
        for place, choices in enumerate(chosen):
            for pick, choice in enumerate(choices):
                having = sum([1 << at for at, (_, picks) in enumerate(ends) if picks[place] == pick])
                routes.extend([(route, having) for route in choice.routes])
        return Move([(end, self._edits(chosen, picks)) for end, picks in ends], routes)

    def _edits(self, chosen, picks):
        found = {}
        for own, choices, pick in zip(self._owns, chosen, picks):
            if choices[pick].edit is not None:
                found[own.owner()] = choices[pick].edit
        return found


def staying_route(field, atoms):
    """Return the route of a field that stays as it was."""
    return Route(field, None, field, 0, (), (atoms.everything(), ()), False)


def can_go_together(one, other):
    """Tell whether two fields can get their values by these routes in one step, as far as edits are concerned."""
    return one.by_own != other.by_own or one.given == other.given

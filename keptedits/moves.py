"""Moves: what the steps of a program make of the documents with one presence.

A presence is an integer with a bit for each field. A set of values is an integer with a bit for each atom.
"""

from keptedits.atoms import atoms_of_specials, taking_both

# How many moves may be kept for the programs of worlds that are made of one another.
MOST_MOVES = 10000


class Route:
    """How a field gets its value behind a step: from a field ahead of it, from an edit or from a default.

    The value comes from source, a field, or else it is one of raw; then it is taken by maps, as taking tells of atoms.
    """

    def __init__(self, target, owner, source, raw, maps, taking, given):
        self.target = target
        self.by_own = owner
        self.source = source
        self.raw = raw
        self.maps = maps
        self.taking = taking
        self.given = given


class OwnPlan:
    """What an own field does for the fields that its program writes from it, for any presence."""

    def __init__(self, name, own, written, plan_set):
        spots = plan_set.spots
        self._name = name
        self._own_field = own
        self._writes = written
        self._atoms = plan_set.atoms[own.kind]
        self._bits = sum([spots[field] for field in written])
        self._source_spots = [spots[field] for field, _ in own.sources]
        self._leaving = sum([spots[field] for field in written if written[field].leaves])
        self._staying = [(spots[field], plan_set.staying[field]) for field in written if written[field].leaves]
        self._can_be_set = not own.settable.is_empty
        self._routes_told = {}

    def owner(self):
        """Return the name of the own field."""
        return self._name

    def choices(self, presence):
        """Return tuples of what the own field may be in a step: the written fields that are present then, and the edit.

        The edit is True, which stands for any settable value, False, for a removal, or None where none is needed.
        """
        if self._place_read(presence) is not None:
            return [(self._bits, None), (0, False)] if self._own_field.removable else [(self._bits, None)]
        leaving = (self._leaving & presence, None)
        return [leaving, (self._bits, True)] if self._can_be_set else [leaving]

    def routes_by_choice(self, presence):
        """Return the list of routes for each of these choices."""
        place = self._place_read(presence)
        if place is not None:
            return [self._routes_read(place) + self._routes_set(), []]
        return [[route for spot, route in self._staying if spot & presence], self._routes_set()]

    def _place_read(self, presence):
        """Return the place of the source that is read, -1 for the default, None if the own field has nothing."""
        for place, spot in enumerate(self._source_spots):
            if spot & presence:
                return place
        return None if self._own_field.default is None else -1

    def _routes_read(self, place):
        """Return the routes of a source, by its place, or of the default."""
        if place not in self._routes_told:
            if place == -1:
                self._routes_told[place] = self._routes_of(self._atoms.bit_of(self._own_field.default), False)
            else:
                field, mapping = self._own_field.sources[place]
                self._routes_told[place] = self._routes_from(field, mapping)
        return self._routes_told[place]

    def _routes_set(self):
        """Return the routes of what an edit gives."""
        if not self._can_be_set:
            return []
        if "set" not in self._routes_told:
            self._routes_told["set"] = self._routes_of(self._atoms.bits_of(self._own_field.settable), True)
        return self._routes_told["set"]

    def _routes_from(self, source, mapping):
        """Return the routes that take the value of a field to the written fields."""
        found = []
        for field, write in self._writes.items():
            taking = taking_both(self._atoms.taking_of(mapping), self._atoms.taking_of(write.mapping))
            found.append(Route(field, self._name, source, 0, (mapping, write.mapping), taking, False))
        return found

    def _routes_of(self, raw, given):
        """Return the routes that take a default, or what an edit gives, to the written fields."""
        found = []
        for field, write in self._writes.items():
            taking = self._atoms.taking_of(write.mapping)
            found.append(Route(field, self._name, None, raw, (write.mapping,), taking, given))
        return found


class Move:
    """The steps of a program from one presence.

    The ends are the presences behind them, each as often as it has different choices of the own fields.
    """

    def __init__(self, presence, kept, owns):
        self._presence = presence
        self._kept = kept
        self._owns = owns
        self._chosen = [own.choices(presence) for own in owns]
        self._picks = [()]
        self.ends = [0]
        for choices in self._chosen:
            self._picks = [picks + (pick,) for picks in self._picks for pick in range(len(choices))]
            self.ends = [end | bits for end in self.ends for bits, _ in choices]
        staying = sum([spot for spot, _ in kept])
        self.ends = [end | staying for end in self.ends]
        self._told_routes = None
        self._by_source = None

    def edits_at(self, end):
        """Return the dict from own fields to True, for any settable value, or False, for a removal, of an end."""
        found = {}
        for own, choices, pick in zip(self._owns, self._chosen, self._picks[end]):
            if choices[pick][1] is not None:
                found[own.owner()] = choices[pick][1]
        return found

    def all_routes(self):
        """Return the tuples (route, places of the ends that have it, as the bits of an integer)."""
        if self._told_routes is None:
            everywhere = (1 << len(self.ends)) - 1
            self._told_routes = [(route, everywhere) for _, route in self._kept]
            for place, own in enumerate(self._owns):
                for pick, some in enumerate(own.routes_by_choice(self._presence)):
                    having = sum([1 << at for at, picks in enumerate(self._picks) if picks[place] == pick])
                    self._told_routes.extend([(route, having) for route in some])
        return self._told_routes

    def routes_from(self, source):
        """Return the tuples (route, list of (place of an end, end)) of the routes from a field, or from none."""
        if self._by_source is None:
            self._by_source = {}
            for route, having in self.all_routes():
                self._by_source.setdefault(route.source, []).append((route, self.ends_at(having)))
        return self._by_source.get(source, [])

    def ends_at(self, having):
        """Return the tuples (place, end) of the ends at some places."""
        return [(place, end) for place, end in enumerate(self.ends) if having >> place & 1]


class Plan:
    """What a program does in its steps, for any presence; each move is found once."""

    def __init__(self, program, plan_set):
        writes = program.writes()
        self._kept = []
        if program.keeps:
            unknown = [field for field in plan_set.spots if field not in writes]
            self._kept = [(plan_set.spots[field], plan_set.staying[field]) for field in unknown]
        self._owns = []
        for name, own in program.own_fields().items():
            written = {field: write for field, write in writes.items() if write is not None and write.own == name}
            if written:
                self._owns.append(OwnPlan(name, own, written, plan_set))
        self._moves = {}

    def move(self, presence):
        """Return the move from a presence."""
        if presence not in self._moves:
            kept = [told for told in self._kept if told[0] & presence]
            self._moves[presence] = Move(presence, kept, self._owns)
        return self._moves[presence]


class PlanSet:
    """The plans of the programs that worlds of the same fields have in common, and the atoms that suffice for them."""

    def __init__(self, kinds, specials):
        self.spots = {field: 1 << place for place, field in enumerate(kinds)}
        self.atoms = atoms_of_specials(specials)
        self.staying = {field: staying_route(field, self.atoms[kind]) for field, kind in kinds.items()}
        self._plans = {}

    def is_full(self):
        """Tell whether so many moves may be kept that another set should take the place of this one."""
        return len(self._plans) << len(self.spots) > MOST_MOVES

    def suffices(self, specials):
        """Tell whether the atoms tell these special values apart from all others."""
        return all([self.atoms[kind].has_specials(values) for kind, values in specials.items()])

    def takes(self, number, program, specials):
        """Take a program with its number and special values, if the atoms suffice; tell whether they do."""
        if number not in self._plans:
            if not self.suffices(specials):
                return False
            self._plans[number] = Plan(program, self)
        return True

    def plan(self, number):
        """Return the plan of the program of a number."""
        return self._plans[number]


def staying_route(field, atoms):
    """Return the route of a field that stays as it was."""
    return Route(field, None, field, 0, (), (atoms.everything(), ()), False)


def can_go_together(one, other):
    """Tell whether two fields can get their values by these routes in one step, as far as edits are concerned."""
    return one.by_own != other.by_own or one.given == other.given

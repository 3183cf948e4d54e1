"""Tracks: which presences rows of steps make of a document, by which moves, and with how few edited own fields.

A presence is an integer with a bit for each field. A set of values is an integer with a bit for each atom.
"""

from heapq import heappop, heappush

from keptedits.atoms import atoms_of, taking_both


class TrackMove:
    """A step of a program from one presence to another, with as few edited own fields as it needs.

    The edits are a tuple of (own field, True for any settable value or False for a removal).
    """

    def __init__(self, ahead, by, edits, after):
        self.ahead = ahead
        self.by = by
        self.edits = edits
        self.after = after

    def edit_of(self, own):
        """Return True if an own field is set, False if it is removed, None if it is not edited."""
        for one, is_set in self.edits:
            if one == own:
                return is_set
        return None


class OwnTrack:
    """An own field and the fields that its program writes from it."""

    def __init__(self, own_name, own, written, spots, atoms):
        self.own_name = own_name
        self.written_bits = sum([spots[field] for field in written])
        self.source_bits = sum([spots[field] for field, _ in own.sources])
        self.settable_bits = atoms.bits_of(own.settable)
        self.can_remove = own.removable
        self.default_bit = None if own.default is None else atoms.bit_of(own.default)
        self.leaving_bits = sum([spots[field] for field in written if written[field].leaves])
        self.takings = {field: atoms.taking_of(written[field].mapping) for field in written}
        self._sources = [(spots[field], field, atoms.taking_of(mapping)) for field, mapping in own.sources]
        self._both = {}

    def source_at(self, presence):
        """Return the place of the source that decides where just these fields are present, None if none does."""
        for place, (spot, _, _) in enumerate(self._sources):
            if spot & presence:
                return place
        return None

    def field_at(self, place):
        """Return the field of the source at a place."""
        return self._sources[place][1]

    def taking_from(self, place, field):
        """Return how the value of the source at a place is taken to a written field."""
        asked = (place, field)
        if asked not in self._both:
            self._both[asked] = taking_both(self._sources[place][2], self.takings[field])
        return self._both[asked]

    def bits_unedited(self, presence):
        """Return the written fields that are present behind a step from a presence without an edit of this field."""
        if self.default_bit is not None or self.source_bits & presence:
            return self.written_bits
        return self.leaving_bits & presence

    def options(self, presence):
        """Return the tuples (written fields that are present then, edits) that differ in what is present."""
        bits = self.bits_unedited(presence)
        found = [(bits, ())]
        if self.settable_bits and bits != self.written_bits:
            found.append((self.written_bits, ((self.own_name, True),)))
        if self.can_remove and bits:
            found.append((0, ((self.own_name, False),)))
        return found


class Tracks:
    """The presences that steps of a world make of a document."""

    def __init__(self, world, base, documents):
        kinds = world.fields()
        self.spots = {field: 1 << place for place, field in enumerate(kinds)}
        atoms = atoms_of(world, [base] + documents)
        self.atoms = {field: atoms[kind] for field, kind in kinds.items()}
        self.start = self.presence_of(base)
        self._kept = {}
        self._owns = {}
        self._writers = {}
        for program in world.programs():
            self._add_program(program, atoms)
        self._moves_into = {self.start: []}
        self._distances = {}
        self._first_moves = {self.start: None}
        self._explore(sorted(world.names()))

    def presence_of(self, fields):
        """Return some fields as an integer."""
        return sum([self.spots[field] for field in fields])

    def distance(self, presence):
        """Return the least number of edited own fields on a way to a presence, None if there is no way."""
        return self._distances.get(presence)

    def moves_into(self, presence):
        """Return the moves to a presence that can be reached."""
        return self._moves_into[presence]

    def moves_to(self, presence):
        """Return the moves of a way to a presence, with the fewest edited own fields."""
        found = []
        move = self._first_moves[presence]
        while move is not None:
            found.append(move)
            move = self._first_moves[move.ahead]
        return list(reversed(found))

    def writer_of(self, name, field):
        """Return the own field from which a program writes a field, None if it writes it from none."""
        return self._writers[name].get(self.spots[field])

    def writer_at(self, name, spot):
        """Return the own field from which a program writes the field of a bit, None if it writes it from none."""
        return self._writers[name].get(spot)

    def _add_program(self, program, atoms):
        writes = program.writes()
        unknown = [field for field in self.spots if field not in writes and program.keeps]
        self._kept[program.name] = self.presence_of(unknown)
        self._owns[program.name] = []
        self._writers[program.name] = {}
        for name, own in program.own_fields().items():
            written = {field: write for field, write in writes.items() if write is not None and write.own == name}
            if written:
                track = OwnTrack(name, own, written, self.spots, atoms[own.kind])
                self._owns[program.name].append(track)
                for field in written:
                    self._writers[program.name][self.spots[field]] = track

    def _moves_from(self, presence, name):
        ends = [(self._kept[name] & presence, ())]
        for own in self._owns[name]:
            options = own.options(presence)
            ends = [(end | bits, edits + more) for end, edits in ends for bits, more in options]
        return [TrackMove(presence, name, edits, end) for end, edits in ends]

    def _explore(self, names):
        waiting = [(0, self.start)]
        least = {self.start: 0}
        while waiting:
            cost, presence = heappop(waiting)
            if presence in self._distances:
                continue
            self._distances[presence] = cost
            for name in names:
                for move in self._moves_from(presence, name):
                    self._moves_into.setdefault(move.after, []).append(move)
                    further = cost + len(move.edits)
                    if move.after not in least or further < least[move.after]:
                        least[move.after] = further
                        self._first_moves[move.after] = move
                        heappush(waiting, (further, move.after))

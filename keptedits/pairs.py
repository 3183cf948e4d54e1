"""Pairs of values that two fields have in one document: for each presence that comes about, which ones come about."""

from keptedits.atoms import image
from keptedits.moves import can_go_together
from keptedits.spread import Fact, Spread


class Bundle:
    """Pairs that are sent together: all pairs of each block (bits, bits of partners), and equal values of equal.

    The blocks may overlap. Pieces are blocks, or (bits, None) for equal values.
    """

    def __init__(self, pieces):
        by_partners, by_bits = {}, {}
        self.equal = 0
        for bits, partners in pieces:
            if partners is None:
                self.equal |= bits
            else:
                by_partners[partners] = by_partners.get(partners, 0) | bits
        for partners, bits in by_partners.items():
            by_bits[bits] = by_bits.get(bits, 0) | partners
        self.blocks = list(by_bits.items())

    def pieces(self):
        """Return the pieces."""
        return self.blocks + ([(self.equal, None)] if self.equal else [])


class Relation:
    """All pairs of two fields: blocks (bits, bits of partners), which do not overlap, and equal values of equal."""

    def __init__(self):
        self.blocks = []
        self.equal = 0

    def widen(self, bits, partners):
        """Add a piece; return the bits that then have new pairs."""
        rest = bits & ~self.equal if partners is None else bits
        for row, known in self.blocks:
            if partners is None:
                rest &= ~(row & known)
            elif partners & ~known == 0:
                rest &= ~row
        if partners is None:
            self.equal |= rest
        elif rest:
            self.blocks = _with_block(self.blocks, rest, partners)
        return rest


class Pairs:
    """For each presence that comes about, and two fields of one kind, the pairs of their values."""

    def __init__(self, spread):
        self._spread = spread
        self._relations = {}
        self._reasons = {}
        self._links = {}
        self._pending = {}
        if not spread.can_be_any():
            self._seed_documents()
            for how, name, presence in spread.starts():
                self._seed_move(how, name, presence)
            # Pairs are sent on in rounds, since many small ones take far longer than few large ones.
            while self._pending:
                pending = self._pending
                self._pending = {}
                for asked, found in pending.items():
                    self._send_on(asked, found)

    def relation(self, presence, one, other):
        """Return the pairs of two different fields of a presence, the first one in sorted order first."""
        if self._spread.can_be_any():
            found = Relation()
            everything = self._spread.values_bits(presence, one)
            found.widen(everything, everything)
            return found
        return self._relations.get((presence, one, other), Relation())

    def reasons(self, presence, one, other):
        """Return the facts that tell these pairs, as they were found, where not all documents come about."""
        return list(self._reasons[(presence, one, other)])

    def _seed_documents(self):
        for position, presence, document in self._spread.documents_with_presences():
            for one, other in self._spread.pairs_of_fields(presence):
                atoms = self._spread.atoms_for(one)
                found = (atoms.bit_of(document[one]), atoms.bit_of(document[other]))
                self._tell((presence, one, other), found, ("document", position))

    def _seed_move(self, how, name, presence):
        """Find the pairs that the values of single fields and the edits make, and link those that pairs make."""
        move = self._spread.move(presence, name)
        routes = move.all_routes()
        for at, (one, having) in enumerate(routes):
            for other, more in routes[at + 1:]:
                if having & more and self._are_paired(one, other):
                    self._seed_routes((how, presence, name), move.ends_at(having & more), one, other)

    def _are_paired(self, one, other):
        if one.target == other.target or not can_go_together(one, other):
            return False
        return self._spread.are_of_one_kind(one.target, other.target)

    def _seed_routes(self, start, ends, one, other):
        if one.source is not None and other.source is not None and one.source != other.source:
            if one.source > other.source:
                one, other = other, one
            self._links.setdefault((start[1], one.source, other.source), []).append((start, ends, one, other))
            return
        joined = one.source == other.source and (one.source is not None or one.by_own == other.by_own)
        piece = (self._bits_for(start[1], one), None if joined else self._bits_for(start[1], other))
        self._send(start, ends, (one, other), Bundle([piece]))

    def _bits_for(self, presence, route):
        return route.raw if route.source is None else self._spread.values_bits(presence, route.source)

    def _send_on(self, asked, found):
        """Send new pairs through the steps of all programs."""
        given = Bundle(found)
        for start, ends, one, other in self._links.get(asked, []):
            self._send(start, ends, (one, other), given)

    def _send(self, start, ends, routes, given):
        """Send pairs along two routes to all of their ends."""
        results = _taken(routes, given).pieces()
        fields = tuple(sorted([routes[0].target, routes[1].target]))
        for place, end in ends:
            for piece in results:
                self._tell((end,) + fields, piece, start + (place,), routes, given)

    def _tell(self, asked, found, cause, routes=(), given=None):
        """Keep pairs (bits, partners, None for equal values) as far as they are new, with the reason."""
        if asked not in self._relations:
            self._relations[asked] = Relation()
            self._reasons[asked] = []
        rest = self._relations[asked].widen(found[0], found[1])
        if rest:
            self._reasons[asked].append(Fact(rest, found[1], cause, routes, given))
            self._pending.setdefault(asked, []).append((rest, found[1]))


class Finding:
    """What comes about from some beginnings in a world: presences, as tuples of fields and as bits, values, pairs."""

    def __init__(self, world, beginnings):
        self.spread = Spread(world, beginnings)
        bits = {self.spread.fields_of(presence): presence for presence in self.spread.presences()}
        self.sorted_presences = sorted(bits, key=_by_size)
        self.bits = bits
        self._pairs = None

    def pairs(self):
        """Return the pairs of values."""
        # Most questions need no pairs, which take long to find.
        if self._pairs is None:
            self._pairs = Pairs(self.spread)
        return self._pairs


def _by_size(presence):
    return (len(presence), presence)


def _with_block(blocks, rest, other):
    """Return blocks of different partners, to which all pairs of rest and other are added."""
    found = {}
    left = rest
    for bits, partners in blocks:
        if bits & rest:
            wider = partners | other
            found[wider] = found.get(wider, 0) | (bits & rest)
        if bits & ~rest:
            found[partners] = found.get(partners, 0) | (bits & ~rest)
        left &= ~bits
    if left:
        found[other] = found.get(other, 0) | left
    return [(bits, partners) for partners, bits in found.items()]


def _taken(routes, given):
    """Return the pairs of the results of pairs that two routes take, the field first in sorted order first."""
    one, other = routes[0].taking, routes[1].taking
    bits = given.equal
    found = [(image(one, row), image(other, partners)) for row, partners in given.blocks]
    for taken, result in one[1]:
        if bits & taken:
            found.append((result, image(other, bits & taken)))
    for taken, result in other[1]:
        if bits & taken & one[0]:
            found.append((bits & taken & one[0], result))
    if routes[0].target > routes[1].target:
        found = [(partners, row) for row, partners in found]
    return Bundle(found + [(bits & one[0] & other[0], None)])

"""Trails: what must be so ahead of steps, so that a field has a value, by a hand or by none, behind them.

It is sought from behind, the least number of edited own fields first.
"""

from heapq import heappop, heappush


class Link:
    """What is wanted at a presence, and the step by which it leads to what the next link wants.

    Wanted is a value of a field, one of the atoms of bits. If field is None, the fields of bits are absent: one of them
    with a hand, or all of them without one; if bits is 0, nothing more is wanted. An own field that makes the wanted
    hand in the step is the maker; it is edited even if the move asks for no edit of it.
    """

    def __init__(self, presence, field, bits, cost, by_move=None, maker=None, next_link=None):
        self.presence = presence
        self.field = field
        self.bits = bits
        self.cost = cost
        self.by_move = by_move
        self.maker = maker
        self.next_link = next_link


class Trail:
    """The search for a past that is by a hand, or for one that is not."""

    def __init__(self, tracks, base_bits, by_hand):
        self._tracks = tracks
        self._base_bits = base_bits
        self._by_hand = by_hand
        self._waiting = []
        self._serial = 0
        self._told = {}

    def first_link(self, targets):
        """Return the first link of the trail of least cost to one of some wanted links, None if there is none."""
        for link in targets:
            self._put(link)
        while self._waiting:
            link = heappop(self._waiting)[2]
            if self._is_new(link):
                if self._is_start(link):
                    return link
                self._go_back(link)
        return None

    def _put(self, link):
        distance = self._tracks.distance(link.presence)
        if distance is not None:
            self._serial += 1
            heappush(self._waiting, (link.cost + distance, self._serial, link))

    def _is_new(self, link):
        """Keep to what no link told ahead of this one, and tell whether there is such a thing."""
        asked = (link.presence, link.field)
        if link.field is None:
            # Another set of absent fields is another wish.
            asked = (link.presence, link.bits)
            is_new = asked not in self._told
            self._told[asked] = True
            return is_new
        link.bits &= ~self._told.get(asked, 0)
        self._told[asked] = self._told.get(asked, 0) | link.bits
        return link.bits != 0

    def _is_start(self, link):
        if link.field is None and link.bits == 0:
            return True
        if self._by_hand or link.presence != self._tracks.start:
            return False
        return link.field is None or self._base_bits[link.field] & link.bits != 0

    def _go_back(self, link):
        for move in self._tracks.moves_into(link.presence):
            if link.field is not None:
                self._value_ahead(link, move)
            elif self._by_hand:
                self._hand_ahead(link, move)
            else:
                self._absent_ahead(link, move)

    def _ahead(self, link, move, field, bits):
        if field is None or bits:
            self._put(Link(move.ahead, field, bits, link.cost + len(move.edits), move, None, link))

    def _made(self, link, move, own):
        """Put in the step in which an edit of an own field makes the hand."""
        cost = link.cost + len(move.edits) + (1 if move.edit_of(own.own_name) is None else 0)
        self._put(Link(move.ahead, None, 0, cost, move, own, link))

    def _value_ahead(self, link, move):
        """Tell what must be so ahead of a move to the value that a link wants."""
        own = self._tracks.writer_of(move.by, link.field)
        if own is None:
            self._ahead(link, move, link.field, link.bits)
            return
        is_set = move.edit_of(own.own_name)
        # An edit that changes what is present is a move of its own.
        if self._by_hand and (is_set or own.bits_unedited(move.ahead) == own.written_bits):
            if origins(own.takings[link.field], link.bits) & own.settable_bits:
                self._made(link, move, own)
        if is_set:
            return
        place = own.source_at(move.ahead)
        if place is not None:
            self._ahead(link, move, own.field_at(place), origins(own.taking_from(place, link.field), link.bits))
        elif own.default_bit is None:
            self._ahead(link, move, link.field, link.bits)
        elif own.default_bit & origins(own.takings[link.field], link.bits):
            self._sources_ahead(link, move, own)

    def _sources_ahead(self, link, move, own):
        """Ask the absent sources of an own field that has its default."""
        if not self._by_hand:
            self._ahead(link, move, None, own.source_bits)
            return
        for bit in bits_in(own.source_bits):
            self._ahead(link, move, None, bit)

    def _hand_ahead(self, link, move):
        """Tell what must be so ahead of a move to the hand that a link wants of an absent field."""
        found = link.bits & ~move.ahead
        own = self._tracks.writer_at(move.by, link.bits)
        if own is not None:
            is_set = move.edit_of(own.own_name)
            if is_set is False or (own.can_remove and own.bits_unedited(move.ahead) == 0):
                self._made(link, move, own)
            if is_set is False:
                return
            if not own.leaving_bits & link.bits:
                found |= own.source_bits
        for bit in bits_in(found):
            self._ahead(link, move, None, bit)

    def _absent_ahead(self, link, move):
        """Tell what must be so ahead of a move so that absent fields have no hand behind it."""
        found = link.bits & ~move.ahead
        for bit in bits_in(link.bits):
            own = self._tracks.writer_at(move.by, bit)
            if own is not None:
                if move.edit_of(own.own_name) is False:
                    return
                if not own.leaving_bits & bit:
                    found |= own.source_bits
        self._ahead(link, move, None, found)


def origins(taking, bits):
    """Return the atoms that are taken to some atoms."""
    found = bits & taking[0]
    for taken, result in taking[1]:
        if result & bits:
            found |= taken
    return found


def bits_in(bits):
    """Return the list of the single bits of an integer."""
    found = []
    while bits:
        found.append(bits & -bits)
        bits &= bits - 1
    return found

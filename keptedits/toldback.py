"""Told back: what two documents alone tell of the edits between them, and documents joined by what they tell."""

from keptedits.checks import check_document
from keptedits.copies import Copy, copy_behind
from keptedits.errors import InvalidCopies
from keptedits.joins import are_apart, checked_choices
from keptedits.passes import is_document, taken_steps, value_read, written
from keptedits.sets import is_name
from keptedits.states import FieldStates, rows_of_states
from keptedits.tracks import Tracks
from keptedits.trails import Link, Trail, bits_in, origins

MOST_JOINED = 6


def verdict(world, base, copy, name, own):
    """Return the verdict on an own field of a document that came from a base."""
    return _verdict_of(least_costs(world, base, copy, name, own))


def least_costs(world, base, copy, name, own):
    """Return the tuple of the least costs of a past by a hand and of another one, None where there is none."""
    own_field = _checked_own(world, base, copy, name, own)
    return Pasts(world, base, [copy]).least_costs(own_field, copy)


def past(world, base, copy, name, own, by_hand):
    """Return a past of least cost that is by a hand, or one that is not, None if there is none."""
    own_field = _checked_own(world, base, copy, name, own)
    return Pasts(world, base, [copy]).past(own_field, copy, by_hand)


def is_by_hand(world, base, copy, name, own, steps):
    """Tell whether a past is by a hand, None if the steps are no past."""
    own_field = _checked_own(world, base, copy, name, own)
    taken = taken_steps(world, steps)
    found = Copy(world, base)
    for place, (by, edit) in enumerate(taken):
        found = copy_behind(found, world.program(by), edit, {given: place + 1 for given in edit})
    document = found.document()
    if sorted(document) != sorted(copy):
        return None
    field = _first_source(own_field, copy)
    if field is not None and document[field] != copy[field]:
        return None
    origin = found.shown(name, own)[1]
    return origin is not None and origin[0] == "hand"


def drifts(world, document):
    """Return the tuples (row, document) of all documents that rows make of one, by the rows."""
    check_document(world, document)
    states = FieldStates(world.fields())
    programs = [world.program(name) for name in sorted(world.names())]
    found = rows_of_states(programs, states, states.state_of(document))
    return [(row, states.document_of(state)) for state, row in found.items()]


def told_open(world, name, base, documents):
    """Return the own fields of a program that are open or split among documents of one base, sorted."""
    return list(_open_kinds(_told_sides(world, name, base, documents)))


def told_joined(world, name, base, documents, choices=None):
    """Return documents of one base, joined by a program; for open and split own fields values are chosen."""
    told = _told_sides(world, name, base, documents)
    given = checked_choices(_open_kinds(told), choices, is_name)
    for own, one in told.items():
        if own not in given and one.side_values:
            given[own] = one.side_values[0]
    return written(world, world.program(name), base, given)


class Pasts:
    """The pasts of documents that came from one base."""

    def __init__(self, world, base, documents):
        self._world = world
        self._tracks = Tracks(world, base, documents)
        self._base_bits = {field: self._tracks.atoms[field].bit_of(base[field]) for field in base}

    def least_costs(self, own_field, copy):
        """Return the tuple of the least costs of a past by a hand and of another one, None where there is none."""
        return (self._least_cost(own_field, copy, True), self._least_cost(own_field, copy, False))

    def past(self, own_field, copy, by_hand):
        """Return a past of least cost that is by a hand, or one that is not, None if there is none."""
        link = self._first_link(own_field, copy, by_hand)
        if link is None:
            return None
        steps = [(move.by, self._least_edit(move)) for move in self._tracks.moves_to(link.presence)]
        while link.by_move is not None:
            edit = self._least_edit(link.by_move)
            if link.maker is not None:
                edit[link.maker.own_name] = self._made_value(link)
            steps.append((link.by_move.by, edit))
            link = link.next_link
        return steps

    def _least_cost(self, own_field, copy, by_hand):
        link = self._first_link(own_field, copy, by_hand)
        return None if link is None else link.cost + self._tracks.distance(link.presence)

    def _first_link(self, own_field, copy, by_hand):
        presence = self._tracks.presence_of(copy)
        field = _first_source(own_field, copy)
        if field is not None:
            targets = [Link(presence, field, self._tracks.atoms[field].bit_of(copy[field]), 0)]
        else:
            bits = self._tracks.presence_of([source for source, _ in own_field.sources])
            targets = [Link(presence, None, bit, 0) for bit in (bits_in(bits) if by_hand else [bits])]
        return Trail(self._tracks, self._base_bits, by_hand).first_link(targets)

    def _least_edit(self, move):
        own_fields = self._world.program(move.by).own_fields()
        return {own: own_fields[own].settable.least() if is_set else None for own, is_set in move.edits}

    def _made_value(self, link):
        """Return the value that the maker of a hand gives, None if it removes."""
        field = link.next_link.field
        if field is None:
            return None
        bits = origins(link.maker.takings[field], link.next_link.bits) & link.maker.settable_bits
        return self._tracks.atoms[field].values_of(bits).least()


class ToldSides:
    """What documents tell of an own field: its kind, the values of its sides, and whether it is open."""

    def __init__(self, own_field, verdicts, documents):
        self.own_kind = own_field.kind
        self.side_values = []
        for told, document in zip(verdicts, documents):
            if told in ("needed", "hand"):
                present = _first_source(own_field, document) is not None
                self.side_values.append(value_read(own_field, document) if present else None)
        shown = [value_read(own_field, document) for document in documents]
        self.is_open = ("open" in verdicts or "none" in verdicts) and are_apart(shown)


def _told_sides(world, name, base, documents):
    """Return the dict from the own fields of a program to what documents tell of them, behind the checks."""
    program = world.program(name)
    check_document(world, base)
    if not isinstance(documents, (list, tuple)) or not 1 <= len(documents) <= MOST_JOINED:
        raise InvalidCopies(-1)
    for position, document in enumerate(documents):
        if not is_document(world, document):
            raise InvalidCopies(position)
    pasts = Pasts(world, base, list(documents))
    found = {}
    for own, told in program.own_fields().items():
        verdicts = [_verdict_of(pasts.least_costs(told, document)) for document in documents]
        found[own] = ToldSides(told, verdicts, documents)
    return found


def _open_kinds(told):
    """Return the dict from the own fields that are open or split to their kinds, sorted."""
    return {own: one.own_kind for own, one in told.items() if one.is_open or are_apart(one.side_values)}


def _verdict_of(costs):
    by_hand, other = costs
    if other is None:
        return "none" if by_hand is None else "needed"
    if by_hand is None or by_hand > other:
        return "idle"
    return "hand" if by_hand < other else "open"


def _checked_own(world, base, copy, name, own):
    check_document(world, base)
    check_document(world, copy)
    return world.program(name).own_field(own)


def _first_source(own_field, document):
    """Return the first source of an own field that is present, None if there is none."""
    for field, _ in own_field.sources:
        if field in document:
            return field
    return None

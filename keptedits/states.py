"""States: documents as integers, over which many passes are quick.

A state has some bits for each field, which tell the number of its value among those that were met in this field, or 0
if it is absent.
"""

from keptedits.errors import TooMany

MOST_STATES = 3000

# Enough: each value that is met in a field is a default's, or stands in a state that is told or is the one too many.
FIELD_BITS = 12


class FieldStates:
    """The values that were met in each field of a world."""

    def __init__(self, fields):
        self._units = {field: 1 << (place * FIELD_BITS) for place, field in enumerate(fields)}
        self._masks = {field: ((1 << FIELD_BITS) - 1) * unit for field, unit in self._units.items()}
        self._bits = {field: {} for field in fields}
        self._values_met = {}

    def fields(self):
        """Return the fields."""
        return list(self._units)

    def mask_of(self, fields):
        """Return all bits of some fields."""
        return sum([self._masks[field] for field in fields])

    def bits_met(self, field, value):
        """Return the bits of a field that has a value."""
        told = self._bits[field]
        if value not in told:
            told[value] = (len(told) + 1) * self._units[field]
            self._values_met[told[value]] = value
        return told[value]

    def value_met(self, bits):
        """Return the value of a field by its bits."""
        return self._values_met[bits]

    def state_of(self, document):
        """Return the state of a document."""
        return sum([self.bits_met(field, value) for field, value in document.items()])

    def document_of(self, state):
        """Return the document of a state."""
        values = self._values_met
        return {field: values[state & mask] for field, mask in self._masks.items() if state & mask}


class OwnStates:
    """An own field, as its program reads it of states, and writes it into some fields."""

    def __init__(self, own_field, written, states):
        self._states = states
        self._sources = [(states.mask_of([field]), mapping, {}) for field, mapping in own_field.sources]
        self._writes = [(field, write.mapping) for field, write in written.items()]
        self._leaving = states.mask_of([field for field, write in written.items() if write.leaves])
        self._by_default = None if own_field.default is None else self._bits_written(own_field.default)
        self.needed = self._leaving | states.mask_of([field for field, _ in own_field.sources])

    def bits_behind(self, state):
        """Return the bits of the written fields behind a pass."""
        for mask, mapping, told in self._sources:
            bits = state & mask
            if bits:
                if bits not in told:
                    told[bits] = self._bits_written(mapping.at(self._states.value_met(bits)))
                return told[bits]
        return state & self._leaving if self._by_default is None else self._by_default

    def _bits_written(self, value):
        return sum([self._states.bits_met(field, mapping.at(value)) for field, mapping in self._writes])


class StatePass:
    """The pass of a program over states: it keeps some bits, and writes others by the bits that it needs."""

    def __init__(self, program, states):
        writes = program.writes()
        unknown = [field for field in states.fields() if field not in writes]
        self.kept = states.mask_of(unknown) if program.keeps else 0
        self.needed = 0
        self._owns = []
        for name, own_field in program.own_fields().items():
            written = {field: write for field, write in writes.items() if write is not None and write.own == name}
            if written:
                self._owns.append(OwnStates(own_field, written, states))
                self.needed |= self._owns[-1].needed

    def bits_written(self, state):
        """Return the bits of all written fields behind the pass."""
        return sum([own.bits_behind(state) for own in self._owns])


def rows_of_states(programs, states, start):
    """Return the dict from all states that rows of programs, sorted by their names, make of one to these rows."""
    passes = []
    for program in programs:
        made = StatePass(program, states)
        passes.append((program.name, made.kept, made.needed, {}, made))
    found = {start: []}
    level = [start]
    while level:
        further = []
        for state in list(level):
            for name, kept, needed, written, made in passes:
                part = state & needed
                if part not in written:
                    written[part] = made.bits_written(part)
                behind = (state & kept) | written[part]
                if behind not in found:
                    if len(found) == MOST_STATES:
                        raise TooMany("documents", MOST_STATES)
                    found[behind] = found[state] + [name]
                    further.append(behind)
        level = further
    return found

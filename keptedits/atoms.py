"""Atoms: groups of values that a world does not tell apart, so that a set of values is an integer with a bit for each.

All values of an atom are taken to themselves by a map of the world, or all to one value.
"""

from keptedits.sets import numbers_of_stretches, texts_of_words


class NumberAtoms:
    """Atoms of numbers: each special integer, and each gap between neighbours of these."""

    def __init__(self, specials):
        self._stretches = []
        self._spots = {}
        start = None
        for special in sorted(set(specials)):
            if start is None or start < special:
                self._stretches.append((start, special - 1))
            self._spots[special] = len(self._stretches)
            self._stretches.append((special, special))
            start = special + 1
        self._stretches.append((start, None))

    def has_specials(self, values):
        """Tell whether these integers are among the special ones."""
        return all([value in self._spots for value in values])

    def everything(self):
        """Return the bits of all atoms."""
        return (1 << len(self._stretches)) - 1

    def bits_of(self, values):
        """Return the bits of a set whose bounds are special."""
        found = 0
        for first, last in values.stretches():
            found |= self._between(first, last)
        return found

    def values_of(self, bits):
        """Return the set of the values of some atoms."""
        found = [stretch for spot, stretch in enumerate(self._stretches) if bits >> spot & 1]
        return numbers_of_stretches(found)

    def bit_of(self, value):
        """Return the bit of the atom of an integer."""
        low, high = 0, len(self._stretches) - 1
        while low < high:
            middle = (low + high) // 2
            if self._stretches[middle][1] < value:
                low = middle + 1
            else:
                high = middle
        return 1 << low

    def taking_of(self, mapping):
        """Return how a map whose bounds are special takes atoms: the bits that stay, and the others by result."""
        staying, taken = 0, {}
        for first, last, what in mapping.pieces():
            bits = self._between(first, last)
            if what is None:
                staying |= bits
            else:
                taken[what] = taken.get(what, 0) | bits
        return (staying, tuple([(bits, self.bit_of(what)) for what, bits in taken.items()]))

    def _between(self, first, last):
        low = 0 if first is None else self._spots[first]
        high = len(self._stretches) - 1 if last is None else self._spots[last]
        return (1 << (high + 1)) - (1 << low)


class TextAtoms:
    """Atoms of texts: each special text, and all others together."""

    def __init__(self, specials):
        self._words = sorted(set(specials))
        self._spots = {word: spot for spot, word in enumerate(self._words)}

    def has_specials(self, values):
        """Tell whether these texts are among the special ones."""
        return all([value in self._spots for value in values])

    def everything(self):
        """Return the bits of all atoms."""
        return (1 << (len(self._words) + 1)) - 1

    def bits_of(self, values):
        """Return the bits of a set whose words are special."""
        found = sum([self.bit_of(word) for word in values.words()])
        return self.everything() - found if values.others else found

    def values_of(self, bits):
        """Return the set of the values of some atoms."""
        others = bits >> len(self._words) & 1 == 1
        told = [word for spot, word in enumerate(self._words) if (bits >> spot & 1 == 1) != others]
        return texts_of_words(told, others)

    def bit_of(self, value):
        """Return the bit of the atom of a text."""
        return 1 << self._spots.get(value, len(self._words))

    def taking_of(self, mapping):
        """Return how a map whose texts are special takes atoms: the bits that stay, and the others by result."""
        taken = {}
        usual = self.everything()
        for old, new in mapping.exceptions().items():
            usual -= self.bit_of(old)
            taken[new] = taken.get(new, 0) | self.bit_of(old)
        if mapping.rest is not None:
            taken[mapping.rest] = taken.get(mapping.rest, 0) | usual
            usual = 0
        return (usual, tuple([(bits, self.bit_of(what)) for what, bits in taken.items()]))


def image(taking, bits):
    """Return the bits of the results at some atoms."""
    found = bits & taking[0]
    for taken, result in taking[1]:
        if bits & taken:
            found |= result
    return found


def taking_both(one, other):
    """Return how atoms are taken in one way, then in another one."""
    taken = {}
    for bits, result in one[1]:
        last = image(other, result)
        taken[last] = taken.get(last, 0) | bits
    for bits, result in other[1]:
        if bits & one[0]:
            taken[result] = taken.get(result, 0) | (bits & one[0])
    return (one[0] & other[0], tuple([(bits, result) for result, bits in taken.items()]))


def atoms_of(world, documents):
    """Return the dict from the kinds to their atoms, for a world and some documents of it."""
    kinds = world.fields()
    return atoms_of_specials([specials_of_program(program) for program in world.programs()] +
                             [specials_of_document(document, kinds) for document in documents])


def atoms_of_specials(told):
    """Return the dict from the kinds to their atoms, for some dicts from the kinds to special values."""
    numbers = [special for one in told for special in one.get("number", [])]
    texts = [special for one in told for special in one.get("text", [])]
    return {"number": NumberAtoms(numbers), "text": TextAtoms(texts)}


def specials_of_program(program):
    """Return the dict from the kinds to the values that tell the maps, defaults and settable values of a program."""
    found = {"number": [], "text": []}
    for own in program.own_fields().values():
        found[own.kind].extend(_told_by_own(own))
    for write in program.writes().values():
        if write is not None:
            found[write.mapping.kind].extend(specials_of_map(write.mapping))
    return found


def specials_of_document(document, kinds):
    """Return the dict from the kinds to the values of a document."""
    found = {"number": [], "text": []}
    for field, value in document.items():
        found[kinds[field]].append(value)
    return found


def _told_by_own(own):
    found = [] if own.default is None else [own.default]
    for _, mapping in own.sources:
        found.extend(specials_of_map(mapping))
    return found + _told_by_set(own.settable)


def specials_of_map(mapping):
    """Return the values that tell a map."""
    if mapping.kind == "text":
        told = mapping.exceptions()
        return list(told) + list(told.values()) + ([] if mapping.rest is None else [mapping.rest])
    return [bound for piece in mapping.pieces() for bound in piece if bound is not None]


def _told_by_set(values):
    if values.kind == "text":
        return values.words()
    return [bound for stretch in values.stretches() for bound in stretch if bound is not None]

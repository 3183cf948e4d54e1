"""Maps, which take each value of a kind to a value of this kind and never change."""

from keptedits.errors import InvalidMap, InvalidValue, Unlike
from keptedits.sets import (
    Texts, check_set, is_name, is_number, is_stretch, is_value, is_within, numbers_of_stretches, texts_of_words)


class Map:
    """The common part of NumberMap and TextMap, which give KIND and the methods with an underscore."""

    KIND = ""

    @property
    def kind(self):
        """The kind of the values that are taken."""
        return self.KIND

    def at(self, value):
        """Return the value to which a value is taken."""
        if not is_value(value, self.KIND):
            raise InvalidValue(value)
        return self._result(value)

    def then(self, other):
        """Return the map that takes a value by this map, and the result by the other one."""
        check_map(other, self.KIND)
        return self._followed(other)

    def image(self, values):
        """Return the set of the results at all values of a set."""
        check_set(values, self.KIND)
        return self._results(values)

    def before(self, values):
        """Return the set of the values whose results are in a set."""
        check_set(values, self.KIND)
        return self._origins(values)

    def constant(self, among=None):
        """Return the one value to which all values of a set are taken, None if there is none."""
        if among is None:
            return self._fixed()
        results = self.image(among)
        return results.least() if results.size == 1 else None

    def apart(self, other, among=None):
        """Return the least value of a set at which the maps differ, None if there is none."""
        check_map(other, self.KIND)
        if among is None:
            return self._differing(other).least()
        check_set(among, self.KIND)
        return among.shared(self._differing(other)).least()

    def __eq__(self, other):
        return isinstance(other, Map) and self.KIND == other.KIND and self._content() == other._content()


class NumberMap(Map):
    """A map of integers, made of pieces (first, last, what)."""

    KIND = "number"

    def __init__(self, pieces):
        if not isinstance(pieces, (list, tuple)) or len(pieces) == 0:
            raise InvalidMap(-1)
        for position in range(len(pieces)):
            if not _is_piece(pieces, position):
                raise InvalidMap(position)
        self._pieces = _normal_pieces(pieces)

    @classmethod
    def same(cls):
        """Return the map that takes each integer to itself."""
        return cls([(None, None, None)])

    @classmethod
    def constant_map(cls, value):
        """Return the map that takes all integers to one value."""
        if not is_number(value):
            raise InvalidValue(value)
        return cls([(None, None, value)])

    @classmethod
    def cut(cls, first, last):
        """Return the map that takes integers outside of a stretch to its nearer bound."""
        if not is_stretch(first, last):
            raise InvalidMap(-1)
        return cls(_pieces_around(first, last, first, last))

    @classmethod
    def reset(cls, first, last, value):
        """Return the map that takes integers outside of a stretch to one value."""
        if not is_stretch(first, last):
            raise InvalidMap(-1)
        if not is_number(value):
            raise InvalidValue(value)
        return cls(_pieces_around(first, last, value, value))

    def pieces(self):
        """Return the normal pieces."""
        return list(self._pieces)

    def parts(self):
        """Return a tuple that tells maps of numbers apart."""
        return self._pieces

    def __repr__(self):
        return f"NumberMap({list(self._pieces)!r})"

    def _result(self, value):
        return _taken(self._pieces[_place_of(self._pieces, value)][2], value)

    def _fixed(self):
        return self._pieces[0][2] if len(self._pieces) == 1 else None

    def _followed(self, other):
        found = []
        for first, last, what in self._pieces:
            if what is None:
                found.extend(pieces_within(other._pieces, first, last))
            else:
                found.append((first, last, other._result(what)))
        return NumberMap(found)

    def _results(self, values):
        found = []
        for stretch in values.stretches():
            for first, last, what in pieces_within(self._pieces, stretch[0], stretch[1]):
                found.append((first, last) if what is None else (what, what))
        return numbers_of_stretches(found)

    def _origins(self, values):
        untouched = numbers_of_stretches([(first, last) for first, last, what in self._pieces if what is None])
        fixed = numbers_of_stretches([(first, last) for first, last, what in self._pieces if what in values])
        return fixed.united(untouched.shared(values))

    def _differing(self, other):
        found = []
        for first, last, what in self._pieces:
            for low, high, other_what in pieces_within(other._pieces, first, last):
                found.extend(_stretches_apart(low, high, what, other_what))
        return numbers_of_stretches(found)

    def _content(self):
        return self._pieces


class TextMap(Map):
    """A map of texts, made of exceptions and the rest."""

    KIND = "text"

    def __init__(self, exceptions=None, rest=None):
        given = {} if exceptions is None else exceptions
        if not isinstance(given, dict) or not (rest is None or is_value(rest, "text")):
            raise InvalidMap(-1)
        for old, new in given.items():
            if not is_value(old, "text") or not is_value(new, "text"):
                raise InvalidMap(-1)
        self._rest = rest
        self._exceptions = {old: given[old] for old in sorted(given) if given[old] != self._usual(old)}

    @classmethod
    def same(cls):
        """Return the map that takes each text to itself."""
        return cls()

    @classmethod
    def constant_map(cls, value):
        """Return the map that takes all texts to one value."""
        if not is_value(value, "text"):
            raise InvalidValue(value)
        return cls({}, value)

    @property
    def rest(self):
        """What all texts but the exceptions are taken to, None for themselves."""
        return self._rest

    def exceptions(self):
        """Return the normal exceptions, sorted."""
        return {old: self._exceptions[old] for old in self._exceptions}

    def parts(self):
        """Return a tuple that tells maps of texts apart."""
        return (tuple(self._exceptions.items()), self._rest)

    def __repr__(self):
        return f"TextMap({self._exceptions!r}, {self._rest!r})"

    def _usual(self, value):
        return value if self._rest is None else self._rest

    def _result(self, value):
        return self._exceptions.get(value, self._usual(value))

    def _followed(self, other):
        found = {} if self._rest is not None else other.exceptions()
        for old, new in self._exceptions.items():
            found[old] = other._result(new)
        return TextMap(found, other._rest if self._rest is None else other._result(self._rest))

    def _fixed(self):
        return self._rest if len(self._exceptions) == 0 else None

    def _ordinary(self):
        return texts_of_words(list(self._exceptions), True)

    def _results(self, values):
        usual = values.shared(self._ordinary())
        if self._rest is not None and not usual.is_empty:
            usual = Texts.of(self._rest)
        return usual.united(texts_of_words([new for old, new in self._exceptions.items() if old in values], False))

    def _origins(self, values):
        usual = self._ordinary()
        if self._rest is None:
            usual = usual.shared(values)
        elif self._rest not in values:
            usual = Texts()
        return usual.united(texts_of_words([old for old, new in self._exceptions.items() if new in values], False))

    def _differing(self, other):
        special = list(self._exceptions) + list(other._exceptions)
        unlike = texts_of_words([text for text in special if self._result(text) != other._result(text)], False)
        return unlike.united(_usually_apart(special, self._rest, other._rest))

    def _content(self):
        return (self._exceptions, self._rest)


def same_map(kind):
    """Return the map that takes each value of a kind to itself."""
    return NumberMap.same() if kind == "number" else TextMap.same()


def constant_map_to(kind, value):
    """Return the map that takes all values of a kind to one value."""
    return NumberMap.constant_map(value) if kind == "number" else TextMap.constant_map(value)


def is_map(value, kind):
    """Tell whether a value is a map of a kind."""
    return isinstance(value, Map) and value.kind == kind


def check_map(value, kind):
    """Raise Unlike for any value that is not a map of a kind."""
    if not is_map(value, kind):
        raise Unlike()


def values_apart(one, values, other, partners):
    """Return the least values of two sets, the first one first, that two maps take apart, None if there are none."""
    if values.is_empty or partners.is_empty:
        return None
    fixed = other.constant(partners)
    value = values.least() if fixed is None else one.apart(constant_map_to(one.kind, fixed), values)
    if value is None:
        return None
    return (value, other.apart(constant_map_to(one.kind, one.at(value)), partners))


def bad_entry(entries, kind):
    """Return the position of the first entry that is no tuple (new name, map of the kind), None if all are."""
    seen = set()
    for position, entry in enumerate(entries):
        if not isinstance(entry, tuple) or len(entry) != 2:
            return position
        if not is_name(entry[0]) or entry[0] in seen or not is_map(entry[1], kind):
            return position
        seen.add(entry[0])
    return None


def _is_piece(pieces, position):
    """Tell whether an element is a piece that follows the one ahead of it, which is a piece."""
    piece = pieces[position]
    if not isinstance(piece, tuple) or len(piece) != 3:
        return False
    first, last, what = piece
    if not is_stretch(first, last) or not (what is None or is_number(what)):
        return False
    if (last is None) != (position == len(pieces) - 1):
        return False
    if position == 0:
        return first is None
    return first == pieces[position - 1][1] + 1


def _normal_pieces(pieces):
    """Return the normal pieces, found from below, of pieces that follow each other."""
    found = []
    start, at = None, 0
    while True:
        what = _normal_what(pieces, at, start)
        last, at = _described(pieces, at, start, what)
        found.append((start, last, what))
        if last is None:
            return tuple(found)
        start = last + 1


def _normal_what(pieces, at, start):
    """Return the what of the normal piece that begins at start, within the piece at a position."""
    last, what = pieces[at][1], pieces[at][2]
    if start is None or (what is not None and what != start):
        return what
    # From here on start is taken to itself, so what comes behind it decides.
    follower = what if last is None or last > start else pieces[at + 1][2]
    return start if follower == start else None


def _described(pieces, at, start, what):
    """Return the last integer that what describes without a gap, and the position of the piece behind it."""
    while True:
        last, own_what = pieces[at][1], pieces[at][2]
        if own_what != what:
            # A fixed what and the integers themselves agree at one integer only.
            if _taken(own_what, start) != _taken(what, start):
                return start - 1, at
            if last != start:
                return start, at
        if last is None:
            return None, at
        at += 1
        start = last + 1


def _taken(what, value):
    """Return the integer to which a piece with this what takes an integer."""
    return value if what is None else what


def _pieces_around(first, last, below, above):
    """Return pieces that take a stretch to itself, what is below it to below, what is above it to above."""
    pieces = [(first, last, None)]
    if first is not None:
        pieces = [(None, first - 1, below)] + pieces
    if last is not None:
        pieces = pieces + [(last + 1, None, above)]
    return pieces


def _place_of(pieces, value):
    """Return the position of the piece that an integer lies in; None lies in the first one."""
    if value is None:
        return 0
    low, high = 0, len(pieces) - 1
    while low < high:
        middle = (low + high) // 2
        if pieces[middle][1] < value:
            low = middle + 1
        else:
            high = middle
    return low


def pieces_within(pieces, first, last):
    """Return the parts of pieces that lie in a stretch."""
    found = []
    start = first
    for _, high, what in pieces[_place_of(pieces, first):]:
        if high is None or (last is not None and last <= high):
            found.append((start, last, what))
            break
        found.append((start, high, what))
        start = high + 1
    return found


def _stretches_apart(first, last, one, other):
    """Return the stretches of a stretch in which two whats take an integer to different ones."""
    if one == other:
        return []
    if one is not None and other is not None:
        return [(first, last)]
    fixed = other if one is None else one
    if not is_within(fixed, first, last):
        return [(first, last)]
    found = [] if first == fixed else [(first, fixed - 1)]
    return found if last == fixed else found + [(fixed + 1, last)]


def _usually_apart(special, one, other):
    """Return the texts beside the special ones that two rests take to different texts."""
    if one == other:
        return Texts()
    if one is not None and other is not None:
        return texts_of_words(special, True)
    fixed = other if one is None else one
    return texts_of_words(special + [fixed], True)

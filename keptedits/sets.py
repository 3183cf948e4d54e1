"""Values of the two kinds, and sets of values, which never change."""

from keptedits.errors import InvalidSet, InvalidValue, Unlike

LETTERS = "abcdefghijklmnopqrstuvwxyz"
NAME_LENGTH = 8
TEXT_LENGTH = 12


def is_number(value):
    """Tell whether a value is an integer; a bool is none."""
    return isinstance(value, int) and not isinstance(value, bool)


def is_word(value, most):
    """Tell whether a value is a string of one to so many letters from a to z."""
    if not isinstance(value, str) or len(value) > most:
        return False
    return value.isascii() and value.isalpha() and value.islower()


def is_name(value):
    """Tell whether a value is a name."""
    return is_word(value, NAME_LENGTH)


def is_kind(value):
    """Tell whether a value is one of the two kinds."""
    return isinstance(value, str) and value in ("number", "text")


def is_value(value, kind):
    """Tell whether kind is a kind and value a value of this kind."""
    if not is_kind(kind):
        return False
    if kind == "number":
        return is_number(value)
    return is_word(value, TEXT_LENGTH)


def kind_of(value):
    """Return the kind of a value."""
    for kind in ("number", "text"):
        if is_value(value, kind):
            return kind
    raise InvalidValue(value)


def natural(value):
    """Return a tuple by which the values of one kind sort in their natural order."""
    if kind_of(value) == "number":
        return (abs(value), 1 if value < 0 else 0)
    return (len(value), value)


class ValueSet:
    """The common part of Numbers and Texts, which give KIND and the methods with an underscore."""

    KIND = ""

    @property
    def kind(self):
        """The kind of the values."""
        return self.KIND

    @property
    def is_empty(self):
        """Whether the set has no value."""
        return self._amount() == 0

    @property
    def size(self):
        """How many values the set has, None for a set without a bound."""
        return self._amount()

    def least(self):
        """Return the first value in the natural order, None if there is none."""
        return self._first_value()

    def united(self, other):
        """Return the set of the values that are in one of both sets."""
        check_set(other, self.KIND)
        return self._joined(other)

    def shared(self, other):
        """Return the set of the values that are in both sets."""
        check_set(other, self.KIND)
        return self._common(other)

    def without(self, other):
        """Return the set of the values that are not in the other set."""
        check_set(other, self.KIND)
        return self._common(other._missing())

    def __contains__(self, value):
        return is_value(value, self.KIND) and self._has(value)

    def __eq__(self, other):
        return isinstance(other, ValueSet) and self.KIND == other.KIND and self._content() == other._content()


class Numbers(ValueSet):
    """A set of integers, made of stretches (first, last); None stands for no bound."""

    KIND = "number"

    def __init__(self, stretches=()):
        if not isinstance(stretches, (list, tuple)):
            raise InvalidSet(-1)
        for position, stretch in enumerate(stretches):
            if not _is_stretch_tuple(stretch):
                raise InvalidSet(position)
        self._stretches = _merged(stretches) if stretches else ()

    @classmethod
    def full(cls):
        """Return the set of all integers."""
        return cls([(None, None)])

    @classmethod
    def of(cls, *values):
        """Return the set of these integers."""
        for position, value in enumerate(values):
            if not is_number(value):
                raise InvalidSet(position)
        return cls([(value, value) for value in values])

    def stretches(self):
        """Return the longest stretches, ascending."""
        return list(self._stretches)

    def __repr__(self):
        return f"Numbers({list(self._stretches)!r})"

    def _amount(self):
        if any([first is None or last is None for first, last in self._stretches]):
            return None
        return sum([last - first + 1 for first, last in self._stretches])

    def _first_value(self):
        return min([_nearest(first, last) for first, last in self._stretches], key=natural, default=None)

    def _missing(self):
        return _numbers_told(_gaps(self._stretches))

    def _joined(self, other):
        return numbers_of_stretches(self._stretches + other._stretches)

    def _common(self, other):
        return _numbers_told(_shared_stretches(self._stretches, other._stretches))

    def _has(self, value):
        return any([is_within(value, first, last) for first, last in self._stretches])

    def _content(self):
        return self._stretches


class Texts(ValueSet):
    """A set of texts: these words, or all texts except these words."""

    KIND = "text"

    def __init__(self, words=(), *, others=False):
        if not isinstance(words, (list, tuple)) or not isinstance(others, bool):
            raise InvalidSet(-1)
        for position, word in enumerate(words):
            if not is_value(word, "text"):
                raise InvalidSet(position)
        self._words = tuple(sorted(set(words))) if words else ()
        self._others = others

    @classmethod
    def full(cls):
        """Return the set of all texts."""
        return cls((), others=True)

    @classmethod
    def of(cls, *values):
        """Return the set of these texts."""
        return cls(values)

    @property
    def others(self):
        """Whether the set has all texts except the words."""
        return self._others

    def words(self):
        """Return the different words, sorted."""
        return list(self._words)

    def __repr__(self):
        return f"Texts({list(self._words)!r}, others={self._others!r})"

    def _amount(self):
        return None if self._others else len(self._words)

    def _first_value(self):
        if not self._others:
            return min(self._words, key=natural, default=None)
        index = 0
        while _text_at(index) in self._words:
            index += 1
        return _text_at(index)

    def _missing(self):
        return texts_of_words(self._words, not self._others)

    def _joined(self, other):
        if self._others and other._others:
            return texts_of_words([word for word in self._words if word in other._words], True)
        if self._others:
            return texts_of_words([word for word in self._words if word not in other._words], True)
        if other._others:
            return texts_of_words([word for word in other._words if word not in self._words], True)
        return texts_of_words(self._words + other._words, False)

    def _common(self, other):
        if self._others and other._others:
            return texts_of_words(self._words + other._words, True)
        if self._others:
            return texts_of_words([word for word in other._words if word not in self._words], False)
        if other._others:
            return texts_of_words([word for word in self._words if word not in other._words], False)
        return texts_of_words([word for word in self._words if word in other._words], False)

    def _has(self, value):
        return (value in self._words) != self._others

    def _content(self):
        return (self._words, self._others)


def numbers_of_stretches(stretches):
    """Return the set of numbers of what is known to be a list of stretches."""
    return _numbers_told(_merged(stretches))


def _numbers_told(stretches):
    """Return the set of numbers of what are known to be the longest stretches, ascending."""
    found = Numbers()
    found._stretches = tuple(stretches)
    return found


def texts_of_words(words, others):
    """Return the set of texts of what are known to be texts."""
    found = Texts((), others=others)
    found._words = tuple(sorted(set(words)))
    return found


def full_set(kind):
    """Return the set of all values of a kind."""
    return Numbers.full() if kind == "number" else Texts.full()


def set_of(kind, *values):
    """Return the set of these values of a kind."""
    return Numbers.of(*values) if kind == "number" else Texts.of(*values)


def is_set(value, kind):
    """Tell whether a value is a set of a kind."""
    return isinstance(value, ValueSet) and value.kind == kind


def check_set(value, kind):
    """Raise Unlike for any value that is not a set of a kind."""
    if not is_set(value, kind):
        raise Unlike()


def is_stretch(first, last):
    """Tell whether two values are the bounds of a stretch."""
    if first is None:
        return last is None or is_number(last)
    return is_number(first) and (last is None or (is_number(last) and first <= last))


def is_within(value, first, last):
    """Tell whether an integer lies in a stretch."""
    return (first is None or first <= value) and (last is None or value <= last)


def _is_stretch_tuple(value):
    return isinstance(value, tuple) and len(value) == 2 and is_stretch(value[0], value[1])


def _merged(stretches):
    """Return the longest stretches, ascending, of stretches that may touch and overlap."""
    if len(stretches) < 2:
        return tuple([(first, last) for first, last in stretches])
    found = []
    for first, last in sorted(stretches, key=_place):
        if found and _reaches(found[-1][1], first):
            found[-1] = (found[-1][0], _later(found[-1][1], last))
        else:
            found.append((first, last))
    return tuple(found)


def _place(stretch):
    # A stretch without a lower bound comes ahead of all others.
    first = stretch[0]
    return (0, 0) if first is None else (1, first)


def _reaches(last, first):
    # Stretches that touch are one stretch, too: no integer is missing between them.
    return last is None or first is None or first <= last + 1


def _later(one, other):
    return None if one is None or other is None else max(one, other)


def _shared_stretches(stretches, others):
    """Return the stretches that lie in stretches of both of two ascending lists."""
    found = []
    at, other_at = 0, 0
    while at < len(stretches) and other_at < len(others):
        first, last = stretches[at]
        other_first, other_last = others[other_at]
        low = other_first if first is None or (other_first is not None and other_first > first) else first
        is_first_done = last is not None and (other_last is None or last <= other_last)
        high = last if is_first_done else other_last
        if low is None or high is None or low <= high:
            found.append((low, high))
        if is_first_done:
            at += 1
        else:
            other_at += 1
    return found


def _gaps(stretches):
    """Return the stretches between and around ascending stretches."""
    if not stretches:
        return [(None, None)]
    found = []
    if stretches[0][0] is not None:
        found.append((None, stretches[0][0] - 1))
    for position in range(1, len(stretches)):
        found.append((stretches[position - 1][1] + 1, stretches[position][0] - 1))
    if stretches[-1][1] is not None:
        found.append((stretches[-1][1] + 1, None))
    return found


def _nearest(first, last):
    """Return the first integer of a stretch in the natural order."""
    if first is not None and first > 0:
        return first
    if last is not None and last < 0:
        return last
    return 0


def _text_at(index):
    """Return the text that has so many texts ahead of it in the natural order."""
    text = ""
    rest = index + 1
    while rest > 0:
        rest -= 1
        text = LETTERS[rest % 26] + text
        rest //= 26
    return text

"""Joins: copies of one root that were changed separately, joined by what persons did."""

from keptedits.copies import Copy, copied, copy_behind, copy_of_parts
from keptedits.errors import InvalidChoice, InvalidCopies, InvalidNumber
from keptedits.sets import is_number, is_value


class Join:
    """Copies with equal roots, which a program joins; it never changes."""

    MAX_COPIES = 6

    def __init__(self, world, name, copies):
        program = world.program(name)
        if not isinstance(copies, (list, tuple)) or not 1 <= len(copies) <= self.MAX_COPIES:
            raise InvalidCopies(-1)
        for position, copy in enumerate(copies):
            if not isinstance(copy, Copy) or copy.world != world or copy.root() != copies[0].root():
                raise InvalidCopies(position)
        self._world = world
        self._name = name
        self._copies = list(copies)
        self._kinds = kinds_of_readings(world, program)
        states = [(copy.document(), copy.origins(), copy.known) for copy in copies]
        self._sides = {reading: _sides_of(states, _sources_at(world, reading)) for reading in self._kinds}

    @property
    def world(self):
        """The world of the copies."""
        return self._world

    @property
    def name(self):
        """The name of the joining program."""
        return self._name

    def copies(self):
        """Return the copies."""
        return list(self._copies)

    def sides(self, reading):
        """Return the tuples (place, number, value) of the sides of a reading, by the places."""
        if not is_reading(reading) or reading not in self._sides:
            raise InvalidChoice(reading)
        return list(self._sides[reading])

    def readings(self):
        """Return all readings, sorted."""
        return list(self._sides)

    def split_readings(self):
        """Return the readings whose sides have different values, sorted."""
        return [reading for reading, sides in self._sides.items() if are_apart([side[2] for side in sides])]

    def asked(self):
        """Return the readings for which values are chosen, sorted."""
        return [reading for reading in self.split_readings() if reading[0] in ("", self._name)]

    def joined(self, choices=None, *, number=None):
        """Return the joined copy; for each asked reading a value, or None, is chosen."""
        return self._joined_copy(self._checked_choices(choices, number), number)

    def mixed(self, choices=None, *, number=None):
        """Return the readings of own fields that show another value of the joined copy than the due one, sorted."""
        joined = self._joined_copy(self._checked_choices(choices, number), number)
        split = {reading: True for reading in self.split_readings()}
        found = []
        for reading in self._sides:
            if reading[0] != "" and reading not in split:
                if joined.shown(reading[0], reading[1])[0] != self.due(reading[0], reading[1]):
                    found.append(reading)
        return found

    def due(self, name, own):
        """Return the value that is due at the reading of an own field, None if nothing is due."""
        own_field = self._world.program(name).own_field(own)
        values = [side[2] for side in self._sides[(name, own)]]
        if len(values) == 0:
            return self._root_copy().shown(name, own)[0]
        if are_apart(values):
            return None
        return own_field.default if values[0] is None else values[0]

    def unseen(self):
        """Return the numbers that some copy knows and no own field of the world shows of any copy, sorted."""
        seen = {}
        for program in self._world.programs():
            for own in program.own_fields():
                for copy in self._copies:
                    seen[copy.shown(program.name, own)[1]] = True
        return [number for number in self._all_known() if ("hand", number) not in seen]

    def _all_known(self):
        """Return the numbers that some copy knows, sorted."""
        return sorted(set([number for copy in self._copies for number in copy.known]))

    def _root_copy(self):
        return Copy(self._world, self._copies[0].root())

    def _checked_choices(self, choices, number):
        """Return the chosen values, behind the check of them and of the number."""
        asked = self.asked()
        given = checked_choices({reading: self._kinds[reading] for reading in asked}, choices, is_reading)
        if asked and not (is_number(number) and number > max([0] + self._all_known())):
            raise InvalidNumber(number)
        return given

    def _joined_copy(self, choices, number):
        known = self._all_known() + ([number] if choices else [])
        given = {reading: choices[reading] for reading in choices}
        numbers = {reading: number for reading in choices}
        for reading, sides in self._sides.items():
            if reading[0] in ("", self._name) and reading not in choices and sides:
                given[reading] = sides[0][2]
                numbers[reading] = max([side[1] for side in sides])
        own_given = {reading[1]: given[reading] for reading in given if reading[0] != ""}
        own_numbers = {reading[1]: numbers[reading] for reading in given if reading[0] != ""}
        made = copy_behind(self._root_copy(), self._world.program(self._name), own_given, own_numbers)
        document, origins = made.document(), made.origins()
        for reading in given:
            if reading[0] == "":
                document[reading[1]] = given[reading]
                origins[reading[1]] = ("hand", numbers[reading])
        document = {field: document[field] for field in document if document[field] is not None}
        return copy_of_parts(made, document, origins, known)


def is_reading(value):
    """Tell whether a value is a tuple of two strings, as readings are."""
    return isinstance(value, tuple) and len(value) == 2 and all([isinstance(part, str) for part in value])


def are_apart(values):
    """Tell whether some values are not all the same."""
    return any([value != values[0] for value in values])


def checked_choices(kinds, choices, is_key):
    """Return the chosen values, for a dict from what is asked to the kinds, sorted, behind their check."""
    chosen = {} if choices is None else choices
    if not isinstance(chosen, dict) or not all([is_key(key) and key in kinds for key in chosen]):
        raise InvalidChoice(None)
    if len(chosen) != len(kinds):
        raise InvalidChoice(None)
    for key in kinds:
        if not (chosen[key] is None or is_value(chosen[key], kinds[key])):
            raise InvalidChoice(key)
    return copied(chosen)


def kinds_of_readings(world, program):
    """Return the dict from all readings to their kinds, sorted."""
    found = {}
    for field, kind in world.fields().items():
        if program.keeps and field not in program.writes():
            found[("", field)] = kind
    for name in sorted(world.names()):
        for own, told in world.program(name).own_fields().items():
            found[(name, own)] = told.kind
    return found


def _sources_at(world, reading):
    """Return the sources of a reading, of a field itself with None as the map."""
    if reading[0] == "":
        return ((reading[1], None),)
    return world.program(reading[0]).own_field(reading[1]).sources


def _sides_of(states, sources):
    """Return the sides (place, number, value) of a reading with these sources at copies, by the places."""
    hands = []
    for place, (document, origins, _) in enumerate(states):
        number, value = _hand_at(document, origins, sources)
        if number is not None:
            hands.append((place, number, value))
    found = []
    for place, number, value in hands:
        if not any([number in states[other][2] for other, greater, _ in hands if other != place and greater > number]):
            found.append((place, number, value))
    return found


def _hand_at(document, origins, sources):
    """Return the number of the hand that a reading shows of a copy, None for none, and its value, None if removed."""
    for field, mapping in sources:
        if field in document:
            value = document[field] if mapping is None else mapping.at(document[field])
            return (origins[field][1] if origins[field][0] == "hand" else None, value)
    numbers = [origins[field][1] for field, _ in sources if origins[field] is not None]
    return (max(numbers) if numbers else None, None)

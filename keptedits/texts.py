"""Texts of values, maps, sets, documents and worlds, and reading exactly these texts again."""

from keptedits.errors import InvalidMap, InvalidText
from keptedits.maps import NumberMap, TextMap
from keptedits.programs import Own, Program, Write
from keptedits.sets import Numbers, Texts, is_kind, is_name, is_stretch, is_value
from keptedits.worlds import World

# Python itself tells no longer integers.
MOST_DIGITS = 4000


def value_text(value):
    """Return the text of a value, "-" for None."""
    return "-" if value is None else str(value)


def map_text(mapping):
    """Return the text of a map."""
    if mapping.kind == "number":
        return ",".join([f"{_stretch_text(first, last)}={_what_text(what)}" for first, last, what in mapping.pieces()])
    told = [f"{old}={new}" for old, new in mapping.exceptions().items()]
    rest = "*" if mapping.rest is None else mapping.rest
    return ",".join(told + [f"*={rest}"])


def set_text(values):
    """Return the text of a set."""
    if values.kind == "text":
        return ("out:" if values.others else "in:") + ",".join(values.words())
    stretches = [_stretch_text(first, last) for first, last in values.stretches()]
    return ",".join(stretches) if stretches else "none"


def document_text(document):
    """Return the text of a document."""
    told = [f"{field}={value_text(document[field])}" for field in sorted(document)]
    return " ".join(told) if told else "-"


def world_text(world):
    """Return the text of a world."""
    lines = [f"field {field} {kind}" for field, kind in world.fields().items()]
    for program in world.programs():
        lines.extend(_program_lines(program))
    return "".join([f"{line}\n" for line in lines])


def parse_map(text, kind):
    """Return the map of a kind that has a text."""
    found = None
    if isinstance(text, str) and is_kind(kind):
        found = _number_map_of(text) if kind == "number" else _text_map_of(text)
    # What is read leniently is told again, so that only its own text is taken.
    if found is None or map_text(found) != text:
        raise InvalidText(0)
    return found


def parse_set(text, kind):
    """Return the set of a kind that has a text."""
    found = None
    if isinstance(text, str) and is_kind(kind):
        found = _numbers_of(text) if kind == "number" else _texts_of(text)
    if found is None or set_text(found) != text:
        raise InvalidText(0)
    return found


def parse_document(world, text):
    """Return the document of a world that has a text."""
    if not isinstance(text, str):
        raise InvalidText(0)
    kinds = world.fields()
    found = {}
    for word in [] if text == "-" else text.split(" "):
        field, sign, told = word.partition("=")
        if field not in kinds or not is_value(value_of(told), kinds[field]):
            raise InvalidText(0)
        found[field] = value_of(told)
    if document_text(found) != text:
        raise InvalidText(0)
    return found


def parse_world(text):
    """Return the world that has a text."""
    if not isinstance(text, str):
        raise InvalidText(0)
    lines = text.split("\n")
    draft = WorldDraft()
    for place, line in enumerate(lines[:-1]):
        if not draft.takes(line.split(" ")):
            raise InvalidText(place + 1)
    # All but a world without fields can end here; what stands behind the last line feed is a line without one.
    if lines[-1] != "" or len(lines) == 1:
        raise InvalidText(len(lines))
    return draft.world_drafted()


def value_of(text):
    """Return the value of a text, None for "-" and for any other text that is none of a value."""
    if is_value(text, "text"):
        return text
    return _integer_of(text)


class WorldDraft:
    """A world as far as its lines are read. Each line that is taken makes a text of a world, so none is missing."""

    def __init__(self):
        self._fields = {}
        self._programs = []
        self._draft = None

    def takes(self, words):
        """Take one more line, if some text of a world goes on with it; tell whether it does."""
        if words[0] == "field":
            return self._takes_field(words)
        if words[0] == "program":
            return self._takes_program(words)
        return self._draft is not None and self._draft.takes(words)

    def world_drafted(self):
        """Return the world."""
        return World(self._fields, self._all_programs())

    def _all_programs(self):
        return self._programs + ([] if self._draft is None else [self._draft.program_drafted()])

    def _takes_field(self, words):
        if len(words) != 3 or not is_name(words[1]) or not is_kind(words[2]):
            return False
        if self._draft is not None or len(self._fields) == World.MAX_FIELDS or not is_behind(words[1], self._fields):
            return False
        self._fields[words[1]] = words[2]
        return True

    def _takes_program(self, words):
        if len(words) != 3 or not is_name(words[1]) or words[2] not in ("keep", "drop"):
            return False
        programs = self._all_programs()
        if len(self._fields) == 0 or len(programs) == World.MAX_PROGRAMS:
            return False
        if words[1] in [program.name for program in programs]:
            return False
        self._programs = programs
        self._draft = ProgramDraft(self._fields, words[1], words[2] == "keep")
        return True


class ProgramDraft:
    """A program as far as its lines are read."""

    def __init__(self, fields, title, keeps):
        self._fields = fields
        self._title = title
        self._is_keeping = keeps
        self._own_fields = {}
        self._last_own = None
        self._writes = {}

    def takes(self, words):
        """Take one more line of the program, if some text of a world goes on with it; tell whether it does."""
        if words[0] == "own" and len(words) == 6:
            return self._takes_own(words)
        if words[0] == "source" and len(words) == 3:
            return self._takes_source(words)
        if words[0] == "write" and len(words) == 5:
            return self._takes_write(words)
        return words[0] == "clear" and len(words) == 2 and self._knows_next(words[1], None)

    def program_drafted(self):
        """Return the program."""
        return Program(self._title, self._own_fields, self._writes, keeps=self._is_keeping)

    def _takes_own(self, words):
        _, own, kind, settable, default, removable = words
        if self._writes or len(self._own_fields) == Program.MAX_OWN or not is_name(own) or not is_kind(kind):
            return False
        if not is_behind(own, self._own_fields) or removable not in ("yes", "no"):
            return False
        values = _numbers_of(settable) if kind == "number" else _texts_of(settable)
        if values is None or set_text(values) != settable or values.size == 1:
            return False
        value = value_of(default)
        if default != "-" and not is_value(value, kind):
            return False
        self._own_fields[own] = Own(kind, [], default=value, settable=values, removable=removable == "yes")
        self._last_own = own
        return True

    def _takes_source(self, words):
        if self._writes or self._last_own is None:
            return False
        told = self._own_fields[self._last_own]
        mapping = self._map_for(words[1], words[2], told.kind)
        if mapping is None or words[1] in [field for field, _ in told.sources]:
            return False
        sources = told.sources + ((words[1], mapping),)
        self._own_fields[self._last_own] = Own(
            told.kind, sources, default=told.default, settable=told.settable, removable=told.removable)
        return True

    def _takes_write(self, words):
        _, field, own, told, leaves = words
        if own not in self._own_fields or leaves not in ("leave", "go"):
            return False
        mapping = self._map_for(field, told, self._own_fields[own].kind)
        return mapping is not None and self._knows_next(field, Write(own, mapping, leaves=leaves == "leave"))

    def _knows_next(self, field, write):
        if field not in self._fields or not is_behind(field, self._writes):
            return False
        self._writes[field] = write
        return True

    def _map_for(self, field, text, kind):
        """Return the map of a text for a field, which has to be of a kind; None if there is none."""
        if self._fields.get(field) != kind:
            return None
        found = _number_map_of(text) if kind == "number" else _text_map_of(text)
        return found if found is not None and map_text(found) == text else None


def is_behind(name, names):
    """Tell whether a name comes behind the last one of some sorted names."""
    return all([name > other for other in names])


def _stretch_text(first, last):
    return f"{_bound_text(first)}..{_bound_text(last)}"


def _bound_text(bound):
    return "*" if bound is None else str(bound)


def _what_text(what):
    return "same" if what is None else str(what)


def _program_lines(program):
    keeps = "keep" if program.keeps else "drop"
    lines = [f"program {program.name} {keeps}"]
    for name, own in program.own_fields().items():
        removable = "yes" if own.removable else "no"
        lines.append(f"own {name} {own.kind} {set_text(own.settable)} {value_text(own.default)} {removable}")
        lines.extend([f"source {field} {map_text(mapping)}" for field, mapping in own.sources])
    for field, write in program.writes().items():
        if write is None:
            lines.append(f"clear {field}")
        else:
            leaves = "leave" if write.leaves else "go"
            lines.append(f"write {field} {write.own} {map_text(write.mapping)} {leaves}")
    return lines


def _integer_of(text):
    """Return the integer of a text, None for any other text than that of an integer."""
    digits = text[1:] if text.startswith("-") else text
    if not 1 <= len(digits) <= MOST_DIGITS or not all(["0" <= digit <= "9" for digit in digits]):
        return None
    return int(text) if str(int(text)) == text else None


def _stretch_of(text):
    """Return the stretch of a text as a tuple, None for any other text."""
    parts = text.split("..")
    if len(parts) != 2:
        return None
    bounds = [None if part == "*" else _integer_of(part) for part in parts]
    for part, bound in zip(parts, bounds):
        if bound is None and part != "*":
            return None
    return (bounds[0], bounds[1]) if is_stretch(bounds[0], bounds[1]) else None


def _numbers_of(text):
    """Return the set of numbers of a text, read leniently, None if there is none."""
    stretches = [_stretch_of(part) for part in ([] if text == "none" else text.split(","))]
    return None if None in stretches else Numbers(stretches)


def _texts_of(text):
    """Return the set of texts of a text, read leniently, None if there is none."""
    head, sign, told = text.partition(":")
    words = told.split(",") if told else []
    if sign == "" or head not in ("in", "out") or not all([is_value(word, "text") for word in words]):
        return None
    return Texts(words, others=head == "out")


def _number_map_of(text):
    """Return the map of numbers of a text, read leniently, None if there is none."""
    pieces = []
    for part in text.split(","):
        told, sign, what = part.partition("=")
        stretch = _stretch_of(told)
        value = _integer_of(what)
        if stretch is None or (value is None and what != "same"):
            return None
        pieces.append(stretch + (value,))
    try:
        return NumberMap(pieces)
    except InvalidMap:
        return None


def _text_map_of(text):
    """Return the map of texts of a text, read leniently, None if there is none."""
    parts = [part.split("=") for part in text.split(",")]
    if not all([len(part) == 2 for part in parts]):
        return None
    rest = parts[-1][1]
    exceptions = {old: new for old, new in parts[:-1]}
    if not all([is_value(word, "text") for part in parts[:-1] for word in part]):
        return None
    if parts[-1][0] != "*" or not (rest == "*" or is_value(rest, "text")):
        return None
    return TextMap(exceptions, None if rest == "*" else rest)

"""Worlds: fields with their kinds, and the programs that read and write them."""

from keptedits.errors import InvalidWorld, UnknownField, UnknownProgram
from keptedits.pairs import Finding
from keptedits.programs import Program
from keptedits.sets import is_kind, is_name
from keptedits.shared import Shared


class World:
    """Fields and programs; it never changes."""

    MAX_FIELDS = 8
    MAX_PROGRAMS = 8

    def __init__(self, fields, programs=()):
        if not _are_fields(fields, self.MAX_FIELDS):
            raise InvalidWorld("fields", None)
        if not isinstance(programs, (list, tuple)) or len(programs) > self.MAX_PROGRAMS:
            raise InvalidWorld("programs", None)
        _check_programs(programs, fields)
        self._fields = {field: fields[field] for field in sorted(fields)}
        self._programs = {program.name: program for program in programs}
        self._tables = {}
        self._shared = Shared(programs)
        self._numbers = {program.name: place for place, program in enumerate(programs)}
        self._told_key = None
        self._last_finding = None

    def fields(self):
        """Return the dict from the fields to their kinds, sorted."""
        return {field: self._fields[field] for field in self._fields}

    def programs(self):
        """Return the programs, in the sequence in which they were given."""
        return list(self._programs.values())

    def names(self):
        """Return the names of the programs, in this sequence."""
        return list(self._programs)

    def program(self, name):
        """Return the program of a name."""
        if name not in self:
            raise UnknownProgram(name)
        return self._programs[name]

    def kind_of_field(self, field):
        """Return the kind of a field."""
        if not isinstance(field, str) or field not in self._fields:
            raise UnknownField(field)
        return self._fields[field]

    def list_table(self, kind):
        """Return the table for putting lists of a kind back before passes of this world."""
        # The world never changes, so what was found once can be used again.
        if kind not in self._tables or self._tables[kind].is_full():
            self._tables[kind] = self._shared.list_table(kind, self.program_numbers())
        return self._tables[kind]

    def plans(self, documents):
        """Return the set of the plans of the programs, for documents of this world."""
        return self._shared.plan_set(self._fields, list(self.program_numbers().values()), documents)

    def finding(self, beginnings):
        """Return what comes about from beginnings that are such of this world."""
        # Several questions often speak of the same beginnings.
        if self._last_finding is None or self._last_finding[0] != beginnings:
            self._last_finding = (beginnings, Finding(self, beginnings))
        return self._last_finding[1]

    def shared(self):
        """Return what the world and worlds made of it keep of their programs."""
        return self._shared

    def world_key(self):
        """Return a tuple that equal worlds with the same shared things have in common."""
        if self._told_key is None:
            self.program_numbers()
            self._told_key = (self._shared, tuple(self._numbers.values()))
        return self._told_key

    def has_fields_of(self, other):
        """Tell whether another world has the same fields."""
        return self._fields == other._fields

    def own_or_none(self, name, own):
        """Return the own field of these names, None for any two values that name none."""
        if name not in self or not isinstance(own, str):
            return None
        return self._programs[name].own_or_none(own)

    def program_numbers(self):
        """Return the dict from the names of the programs to their numbers in what is shared."""
        if self._numbers is None:
            self._numbers = {name: self._shared.number_of(program) for name, program in self._programs.items()}
        return dict(self._numbers)

    def only(self, *names):
        """Return the world with just these programs, in the sequence of this world."""
        for name in names:
            if name not in self:
                raise UnknownProgram(name)
        return self._made({name: self._programs[name] for name in self._programs if name in names})

    def with_program(self, program):
        """Return the world in which a program replaces the one with its name, or follows as a last one."""
        programs = self.programs() + [program]
        if isinstance(program, Program) and program.name in self:
            programs = [program if one.name == program.name else one for one in self.programs()]
        if len(programs) > self.MAX_PROGRAMS or not isinstance(program, Program) or not _suits(program, self._fields):
            # The constructor tells what is wrong.
            return World(self._fields, programs)
        return self._made({one.name: one for one in programs})

    def with_room(self):
        """Return this world, or an equal one if further programs may not be told of what it shares."""
        return self if self._shared.has_room() else World(self._fields, self.programs())

    def numbered(self, numbers):
        """Return the world with just the programs of a dict from names to numbers in what is shared."""
        found = self._made({name: self._shared.program_at(number) for name, number in numbers.items()})
        found._shared = self._shared
        found._numbers = {name: numbers[name] for name in numbers}
        return found

    def _made(self, programs):
        """Return the world with these programs, which are known to suit the fields."""
        # Its fields are known to be right, too, so they need no check.
        found = World({"a": "number"})
        found._fields = self._fields
        found._programs = programs
        found._shared = self._shared if self._shared.has_room() else Shared(list(programs.values()))
        found._numbers = None
        return found

    def __contains__(self, name):
        return isinstance(name, str) and name in self._programs

    def __len__(self):
        return len(self._programs)

    def __eq__(self, other):
        return isinstance(other, World) and self._content() == other._content()

    def _content(self):
        # The sequence of the programs counts, which a comparison of dicts would pass over.
        return (self._fields, list(self._programs.values()))


def _are_fields(fields, most):
    if not isinstance(fields, dict) or not 1 <= len(fields) <= most:
        return False
    return all([is_name(field) and is_kind(fields[field]) for field in fields])


def _check_programs(programs, fields):
    names = set()
    for position, program in enumerate(programs):
        if not isinstance(program, Program) or program.name in names or not _suits(program, fields):
            raise InvalidWorld("programs", position)
        names.add(program.name)


def _suits(program, fields):
    """Tell whether all that a program reads and knows are fields, of the right kinds."""
    for own in program.own_fields().values():
        if not all([fields.get(field) == own.kind for field, _ in own.sources]):
            return False
    for field, write in program.writes().items():
        if field not in fields or (write is not None and write.mapping.kind != fields[field]):
            return False
    return True

"""Worlds: fields with their kinds, and the programs that read and write them."""

from keptedits.errors import InvalidWorld, UnknownField, UnknownProgram
from keptedits.programs import Program
from keptedits.sets import is_kind, is_name
from keptedits.tables import ListTable


class World:
    """Fields and programs; it never changes."""

    MAX_FIELDS = 8
    MAX_PROGRAMS = 8

    def __init__(self, fields, programs=()):
        if not _are_fields(fields, self.MAX_FIELDS):
            raise InvalidWorld("fields", None)
        if not isinstance(programs, (list, tuple)) or len(programs) > self.MAX_PROGRAMS:
            raise InvalidWorld("programs", None)
        _check_programs(programs, fields)
        self._fields = {field: fields[field] for field in sorted(fields)}
        self._programs = {program.name: program for program in programs}
        self._tables = {}

    def fields(self):
        """Return the dict from the fields to their kinds, sorted."""
        return {field: self._fields[field] for field in self._fields}

    def programs(self):
        """Return the programs, in the sequence in which they were given."""
        return list(self._programs.values())

    def names(self):
        """Return the names of the programs, in this sequence."""
        return list(self._programs)

    def program(self, name):
        """Return the program of a name."""
        if name not in self:
            raise UnknownProgram(name)
        return self._programs[name]

    def kind_of_field(self, field):
        """Return the kind of a field."""
        if not isinstance(field, str) or field not in self._fields:
            raise UnknownField(field)
        return self._fields[field]

    def list_table(self, kind):
        """Return the table for putting lists of a kind back before passes of this world."""
        # The world never changes, so what was found once can be used again.
        if kind not in self._tables:
            self._tables[kind] = ListTable(self, kind)
        return self._tables[kind]

    def only(self, *names):
        """Return the world with just these programs, in the sequence of this world."""
        for name in names:
            if name not in self:
                raise UnknownProgram(name)
        return World(self._fields, [program for program in self.programs() if program.name in names])

    def with_program(self, program):
        """Return the world in which a program replaces the one with its name, or follows as a last one."""
        if not isinstance(program, Program) or program.name not in self:
            return World(self._fields, self.programs() + [program])
        return World(self._fields, [program if one.name == program.name else one for one in self.programs()])

    def __contains__(self, name):
        return isinstance(name, str) and name in self._programs

    def __len__(self):
        return len(self._programs)

    def __eq__(self, other):
        return isinstance(other, World) and self._content() == other._content()

    def _content(self):
        # The sequence of the programs counts, which a comparison of dicts would pass over.
        return (self._fields, list(self._programs.values()))


def _are_fields(fields, most):
    if not isinstance(fields, dict) or not 1 <= len(fields) <= most:
        return False
    return all([is_name(field) and is_kind(fields[field]) for field in fields])


def _check_programs(programs, fields):
    names = set()
    for position, program in enumerate(programs):
        if not isinstance(program, Program) or program.name in names or not _suits(program, fields):
            raise InvalidWorld("programs", position)
        names.add(program.name)


def _suits(program, fields):
    """Tell whether all that a program reads and knows are fields, of the right kinds."""
    for own in program.own_fields().values():
        if not all([fields.get(field) == own.kind for field, _ in own.sources]):
            return False
    for field, write in program.writes().items():
        if field not in fields or (write is not None and write.mapping.kind != fields[field]):
            return False
    return True

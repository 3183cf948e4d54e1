"""A store: copies by names, with numbers for their edits, and with undoing."""

from keptedits.copies import Copy
from keptedits.errors import InvalidCopies, InvalidName, NameTaken, NothingToUndo, UnknownName
from keptedits.joins import Join
from keptedits.sets import is_name


class Store:
    """Copies of a world by their names."""

    def __init__(self, world):
        self._world = world
        self._copies = {}
        self._sorted_names = []
        self._last = 0
        self._states = []

    @property
    def world(self):
        """The world of the copies."""
        return self._world

    @property
    def last(self):
        """The last number that was used, 0 if none was."""
        return self._last

    def put(self, name, document):
        """Keep a new copy of a document."""
        self._check_new(name)
        self._keep(name, Copy(self._world, document), self._last)

    def copy_of(self, name):
        """Return the copy of a name."""
        if name not in self:
            raise UnknownName(name)
        return self._copies[name]

    def step(self, name, program, edit=None):
        """Change a copy by a step; return the number of its edit, None if it edits nothing."""
        number = self._last + 1
        found = self.copy_of(name).stepped(program, edit, number=number)
        if number not in found.known:
            self._keep(name, found, self._last)
            return None
        self._keep(name, found, number)
        return number

    def fork(self, name, new):
        """Keep an equal copy under a new name."""
        found = self.copy_of(name)
        self._check_new(new)
        self._keep(new, found, self._last)

    def drop(self, name):
        """Keep the copy of a name no longer."""
        self.copy_of(name)
        self._change({one: self._copies[one] for one in self._copies if one != name}, self._last)

    def merge(self, new, program, names, choices=None):
        """Keep the joined copy of some copies under a new name; return the mixed readings, sorted."""
        join = self.join_for(new, program, names)
        number = self._last + 1
        found = join.joined(choices, number=number)
        mixed = join.mixed(choices, number=number)
        self._keep(new, found, number if choices else self._last)
        return mixed

    def join_for(self, new, program, names):
        """Return the join of some copies, behind the checks of all but the choices."""
        self._check_new(new)
        self._world.program(program)
        if not isinstance(names, (list, tuple)) or not 1 <= len(names) <= Join.MAX_COPIES:
            raise InvalidCopies(-1)
        return Join(self._world, program, [self.copy_of(name) for name in names])

    def undo(self):
        """Take back the last call that changed the store."""
        if len(self._states) == 0:
            raise NothingToUndo()
        copies, last = self._states[-1]
        self._states = self._states[:-1]
        self._set(copies, last)

    def names(self):
        """Return the names of the copies, sorted."""
        return list(self._sorted_names)

    def __len__(self):
        return len(self._copies)

    def __contains__(self, name):
        return is_name(name) and name in self._copies

    def __iter__(self):
        return iter(self._sorted_names)

    def _check_new(self, name):
        if not is_name(name):
            raise InvalidName(name)
        if name in self._copies:
            raise NameTaken(name)

    def _keep(self, name, found, last):
        copies = {one: self._copies[one] for one in self._copies}
        copies[name] = found
        self._change(copies, last)

    def _change(self, copies, last):
        self._states = self._states + [(self._copies, self._last)]
        self._set(copies, last)

    def _set(self, copies, last):
        # A new list, so that who iterates over the names is not disturbed.
        self._copies = copies
        self._sorted_names = sorted(copies)
        self._last = last

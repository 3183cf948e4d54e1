"""Admission: which sets of programs can be used together, by the wishes that name programs of the set only."""

from keptedits.checks import check_row
from keptedits.sure import parts_by_size
from keptedits.wishes import copied_fault


class Admission:
    """Which sets of the programs of a world are let by its wishes; it never changes."""

    def __init__(self, wishes):
        self._wishes = wishes
        self._faults = {}

    @property
    def wishes(self):
        """The wishes."""
        return self._wishes

    def is_let(self, names):
        """Tell whether a set of programs is let."""
        check_row(self._wishes.world, names)
        return self._fault(sorted_set(names)) is None

    def bad_sets(self):
        """Return the tuples (names, position of a wish, fault) of the bad sets, by their size, then sorted."""
        return [(names,) + copied_fault(self._fault(names)) for names in self._bad_names()]

    def greatest_sets(self):
        """Return the greatest sets that are let, by their size, then sorted."""
        bad = self._bad_names()
        found = []
        for names in reversed(self._parts()):
            if not contains_one(names, bad) and not any([contains(greater, names) for greater in found]):
                found.append(names)
        return list(reversed(found))

    def admits(self, names, name):
        """Return the first bad set that a set of programs contains with one more program, None if it is let."""
        world = self._wishes.world
        check_row(world, names)
        world.program(name)
        wanted = sorted_set(list(names) + [name])
        if self._fault(wanted) is None:
            return None
        # The first set that is not let has all its proper parts ahead of it.
        return [part for part in parts_by_size(wanted) if self._fault(part) is not None][0]

    def _parts(self):
        return parts_by_size(sorted(self._wishes.world.names()))

    def _bad_names(self):
        found = []
        for names in self._parts():
            if not contains_one(names, found) and self._fault(names) is not None:
                found.append(names)
        return found

    def _fault(self, names):
        """Return the first fault (position, fault) of a set, None if it is let."""
        if names not in self._faults:
            self._faults[names] = self._wishes.first_fault_among(names)
        return self._faults[names]


def sorted_set(names):
    """Return the sorted tuple of the different ones of some names."""
    return tuple(sorted(set(names)))


def contains(names, part):
    """Tell whether a set of names contains all names of another one."""
    return all([name in names for name in part])


def contains_one(names, parts):
    """Tell whether a set of names contains one of some sets."""
    return any([contains(names, part) for part in parts])

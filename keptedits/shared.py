"""What a world, and worlds that are made of it, keep of their programs, so that it is found just once."""

from keptedits.atoms import specials_of_document, specials_of_map, specials_of_program
from keptedits.cells import cuts_of_map, cuts_of_program
from keptedits.moves import PlanSet
from keptedits.tables import ListStock, ListTable


class Shared:
    """Programs, each with a number, those of the first world by their places; equal ones have the same number."""

    MOST_PROGRAMS = 300

    def __init__(self, programs):
        self._programs = list(programs)
        self._numbers = None
        self._expected = []
        self._stocks = {}
        self._cuts = {}
        self._plan_set = None
        self._specials = {}

    def has_room(self):
        """Tell whether further programs may be told."""
        return len(self._programs) < self.MOST_PROGRAMS

    def number_of(self, program):
        """Return the number of a program."""
        if self._numbers is None:
            self._numbers = {program_key(one): place for place, one in enumerate(self._programs)}
        told = program_key(program)
        if told not in self._numbers:
            self._numbers[told] = len(self._programs)
            self._programs.append(program)
        return self._numbers[told]

    def program_at(self, number):
        """Return the program of a number."""
        return self._programs[number]

    def expect(self, maps):
        """Tell maps that programs to come may have."""
        self._expected = list(maps)

    def list_table(self, kind, numbers):
        """Return the table of lists of a kind for a world, with a dict from the names of its programs to numbers."""
        told = list(numbers.values())
        stock = self._stocks.get(kind)
        if stock is None or stock.is_full() or not self._is_taken(stock, kind, told):
            cuts = [cut for mapping in self._expected if mapping.kind == kind for cut in cuts_of_map(mapping)]
            for number in told:
                cuts.extend(self._cuts_of(kind, number))
            stock = ListStock(kind, cuts)
            for number in told:
                stock.takes(number, self._programs[number], [])
            self._stocks[kind] = stock
        return ListTable(stock, numbers)

    def plan_set(self, kinds, numbers, documents):
        """Return a set that has the plans of some programs, for documents of a world with these fields."""
        told = [specials_of_document(document, kinds) for document in documents]
        if self._plan_set is None or self._plan_set.is_full() or not self._is_planned(numbers, told):
            told.extend([{mapping.kind: specials_of_map(mapping)} for mapping in self._expected])
            told.extend([self._specials_of(number) for number in numbers])
            self._plan_set = PlanSet(kinds, told)
            for number in numbers:
                self._plan_set.takes(number, self._programs[number], {})
        return self._plan_set

    def _is_taken(self, stock, kind, numbers):
        """Tell whether a stock suffices for programs, and let it take those for which it does."""
        return all([stock.takes(number, self._programs[number], self._cuts_of(kind, number)) for number in numbers])

    def _is_planned(self, numbers, specials):
        """Tell whether the plans suffice for programs and special values, and plan those programs for which they do."""
        found = self._plan_set
        if not all([found.suffices(values) for values in specials]):
            return False
        return all([found.takes(number, self._programs[number], self._specials_of(number)) for number in numbers])

    def _specials_of(self, number):
        if number not in self._specials:
            self._specials[number] = specials_of_program(self._programs[number])
        return self._specials[number]

    def _cuts_of(self, kind, number):
        asked = (kind, number)
        if asked not in self._cuts:
            self._cuts[asked] = cuts_of_program(self._programs[number], kind)
        return self._cuts[asked]


def program_key(program):
    """Return a tuple that is the same for equal programs alone."""
    owns = tuple([(name, own.kind, own.default, own.removable, set_key(own.settable), sources_key(own.sources))
                  for name, own in program.own_fields().items()])
    writes = tuple([(field, None if write is None else (write.own, write.leaves, write.mapping.parts()))
                    for field, write in program.writes().items()])
    return (program.name, program.keeps, owns, writes)


def sources_key(sources):
    """Return a tuple that is the same for equal sources of a kind alone."""
    return tuple([part for field, mapping in sources for part in (field, mapping.parts())])


def set_key(values):
    """Return a tuple that is the same for equal sets of a kind alone."""
    return (values.others, tuple(values.words())) if values.kind == "text" else tuple(values.stretches())

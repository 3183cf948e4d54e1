"""Offers, which change programs, and the least sets of them that make all wishes hold."""

from keptedits.errors import InvalidChoice, InvalidOffer
from keptedits.maps import Map
from keptedits.programs import Own, Program, Write
from keptedits.sets import is_name, is_number
from keptedits.sure import parts_by_size
from keptedits.wishes import copied_fault


class Adapters:
    """Offers, and which choices of them leave no fault of some wishes; they never change."""

    MAX_OFFERS = 8

    def __init__(self, wishes, offers):
        if not isinstance(offers, (list, tuple)) or len(offers) > self.MAX_OFFERS:
            raise InvalidOffer(-1)
        for position, offer in enumerate(offers):
            if not is_offer(wishes.world, offer):
                raise InvalidOffer(position)
        self._wishes = wishes
        self._offers = list(offers)
        self._world = wishes.world.with_room()
        self._world.shared().expect([offer[4] for offer in offers if offer[0] in ("read", "write")])
        self._behind = {(): self._world.program_numbers()}
        self._variants = {}
        self._faults = {}
        self._least = []
        for choice in parts_by_size(list(range(len(offers)))):
            if self._least and len(choice) > len(self._least[0]):
                break
            self._faults[choice] = self._found_fault(choice)
            if self._faults[choice] is None:
                self._least.append(choice)

    @property
    def wishes(self):
        """The wishes."""
        return self._wishes

    @property
    def chosen(self):
        """The first one of the least adapters, None if there is none."""
        return self._least[0] if self._least else None

    def offers(self):
        """Return the offers."""
        return list(self._offers)

    def fault(self, choice):
        """Return the fault of a choice, None if it has none."""
        if not self._is_choice(choice):
            raise InvalidChoice(choice)
        if choice in self._faults:
            return copied_fault(self._faults[choice])
        return self._found_fault(choice)

    def least(self):
        """Return the least adapters, sorted."""
        return list(self._least)

    def smaller(self):
        """Yield the tuples (choice, fault) of all choices with fewer offers than the least adapters."""
        for choice, fault in self._faults.items():
            if not self._least or len(choice) < len(self._least[0]):
                yield (choice, copied_fault(fault))

    def _is_choice(self, choice):
        if not isinstance(choice, tuple) or not all([is_number(position) for position in choice]):
            return False
        if not all([choice[place - 1] < choice[place] for place in range(1, len(choice))]):
            return False
        return all([0 <= position < len(self._offers) for position in choice])

    def _found_fault(self, choice):
        numbers = self._numbers_behind(choice)
        if isinstance(numbers, tuple):
            return numbers
        found = self._wishes.first_fault(self._world.numbered(numbers))
        return None if found is None else ("wish", found[0], found[1])

    def _numbers_behind(self, choice):
        """Return the dict from the programs behind a choice to their numbers, or the fault of an offer."""
        if choice not in self._behind:
            ahead = self._numbers_behind(choice[:-1])
            self._behind[choice] = ahead if isinstance(ahead, tuple) else self._with_offer(ahead, choice[-1])
        return self._behind[choice]

    def _with_offer(self, numbers, position):
        name = self._offers[position][1]
        # Many choices make the same program.
        asked = (numbers[name], position)
        if asked not in self._variants:
            self._variants[asked] = self._number_changed(numbers[name], self._offers[position])
        if self._variants[asked] is None:
            return ("offer", position)
        return {one: self._variants[asked] if one == name else numbers[one] for one in numbers}

    def _number_changed(self, number, offer):
        """Return the number of the program that an offer makes of one, None if it does not fit."""
        shared = self._world.shared()
        program = shared.program_at(number)
        if not is_fit(self._world.fields(), program, offer):
            return None
        return shared.number_of(program_with_offer(program, offer))


def fits(world, offer):
    """Tell whether a value is an offer that fits a world."""
    return is_offer(world, offer) and is_fit(world.fields(), world.program(offer[1]), offer)


def is_fit(kinds, program, offer):
    """Tell whether an offer fits its program, for a dict from the fields of the world to their kinds."""
    kind, writes = offer[0], program.writes()
    if kind == "keep":
        return not program.keeps
    if kind == "clear":
        return offer[2] not in writes
    if kind == "leave":
        return writes.get(offer[2]) is not None and not writes[offer[2]].leaves
    own = program.own_field(offer[2])
    if kind == "no default":
        return own.default is not None
    if kinds[offer[3]] != own.kind or offer[4].kind != own.kind:
        return False
    if kind == "write":
        return offer[3] not in writes
    return offer[3] not in [field for field, _ in own.sources]


def applied(world, offers):
    """Return the world behind some offers, of which each fits the world that the ones ahead of it make."""
    if not isinstance(offers, (list, tuple)):
        raise InvalidOffer(-1)
    found = world
    for position, offer in enumerate(offers):
        if not fits(found, offer):
            raise InvalidOffer(position)
        found = found.with_program(program_with_offer(found.program(offer[1]), offer))
    return found


def is_offer(world, offer):
    """Tell whether a value has the form of an offer, with programs and fields of a world."""
    if not isinstance(offer, tuple) or len(offer) < 2 or not isinstance(offer[0], str) or offer[1] not in world:
        return False
    kind, many = offer[0], len(offer)
    if kind == "keep":
        return many == 2
    if kind in ("clear", "leave"):
        return many == 3 and _is_field(world, offer[2])
    if many < 3 or world.own_or_none(offer[1], offer[2]) is None:
        return False
    if kind == "no default":
        return many == 3
    if kind == "write":
        return many == 5 and _is_field(world, offer[3]) and isinstance(offer[4], Map)
    if kind != "read" or many != 6 or not _is_field(world, offer[3]) or not isinstance(offer[4], Map):
        return False
    return isinstance(offer[5], str) and offer[5] in ("first", "last")


def _is_field(world, value):
    return is_name(value) and value in world.fields()


def program_with_offer(program, offer):
    """Return the program that an offer which fits makes of one."""
    kind, own_fields, writes = offer[0], program.own_fields(), program.writes()
    if kind == "read":
        own_fields[offer[2]] = _reading(own_fields[offer[2]], (offer[3], offer[4]), offer[5])
    elif kind == "write":
        writes[offer[3]] = Write(offer[2], offer[4])
    elif kind == "clear":
        writes[offer[2]] = None
    elif kind == "leave":
        write = writes[offer[2]]
        writes[offer[2]] = Write(write.own, write.mapping, leaves=True)
    elif kind == "no default":
        own = own_fields[offer[2]]
        own_fields[offer[2]] = Own(own.kind, own.sources, settable=own.settable, removable=own.removable)
    keeps = program.keeps or kind == "keep"
    return Program(program.name, own_fields, writes, keeps=keeps)


def _reading(own, source, place):
    sources = (source,) + own.sources if place == "first" else own.sources + (source,)
    return Own(own.kind, sources, default=own.default, settable=own.settable, removable=own.removable)

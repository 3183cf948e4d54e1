"""Offers, which change programs, and the least sets of them that make all wishes hold."""

from keptedits.errors import InvalidChoice, InvalidOffer
from keptedits.maps import Map
from keptedits.programs import Own, Program, Write
from keptedits.sets import is_name, is_number
from keptedits.sure import parts_by_size
from keptedits.wishes import copied_fault, own_or_none


class Adapters:
    """Offers, and which choices of them leave no fault of some wishes; they never change."""

    MAX_OFFERS = 8

    def __init__(self, wishes, offers):
        if not isinstance(offers, (list, tuple)) or len(offers) > self.MAX_OFFERS:
            raise InvalidOffer(-1)
        for position, offer in enumerate(offers):
            if not is_offer(wishes.world, offer):
                raise InvalidOffer(position)
        self._wishes = wishes
        self._offers = list(offers)
        self._faults = {}
        self._least = []
        for choice in parts_by_size(list(range(len(offers)))):
            if self._least and len(choice) > len(self._least[0]):
                break
            self._faults[choice] = self._found_fault(choice)
            if self._faults[choice] is None:
                self._least.append(choice)

    @property
    def wishes(self):
        """The wishes."""
        return self._wishes

    @property
    def chosen(self):
        """The first one of the least adapters, None if there is none."""
        return self._least[0] if self._least else None

    def offers(self):
        """Return the offers."""
        return list(self._offers)

    def fault(self, choice):
        """Return the fault of a choice, None if it has none."""
        if not self._is_choice(choice):
            raise InvalidChoice(choice)
        if choice not in self._faults:
            return self._found_fault(choice)
        return copied_fault(self._faults[choice])

    def least(self):
        """Return the least adapters, sorted."""
        return list(self._least)

    def smaller(self):
        """Yield the tuples (choice, fault) of all choices with fewer offers than the least adapters."""
        for choice, fault in self._faults.items():
            if not self._least or len(choice) < len(self._least[0]):
                yield (choice, copied_fault(fault))

    def _is_choice(self, choice):
        if not isinstance(choice, tuple) or not all([is_number(position) for position in choice]):
            return False
        if not all([choice[place - 1] < choice[place] for place in range(1, len(choice))]):
            return False
        return all([0 <= position < len(self._offers) for position in choice])

    def _found_fault(self, choice):
        world = self._wishes.world
        for position in choice:
            if not fits(world, self._offers[position]):
                return ("offer", position)
            world = _with_offer(world, self._offers[position])
        found = self._wishes.first_fault(world)
        return None if found is None else ("wish", found[0], found[1])


def fits(world, offer):
    """Tell whether a value is an offer that fits a world."""
    if not is_offer(world, offer):
        return False
    kind, program = offer[0], world.program(offer[1])
    writes = program.writes()
    if kind == "keep":
        return not program.keeps
    if kind == "clear":
        return offer[2] not in writes
    if kind == "leave":
        return writes.get(offer[2]) is not None and not writes[offer[2]].leaves
    own = program.own_field(offer[2])
    if kind == "no default":
        return own.default is not None
    if world.kind_of_field(offer[3]) != own.kind or offer[4].kind != own.kind:
        return False
    if kind == "write":
        return offer[3] not in writes
    return offer[3] not in [field for field, _ in own.sources]


def applied(world, offers):
    """Return the world behind some offers, of which each fits the world that the ones ahead of it make."""
    if not isinstance(offers, (list, tuple)):
        raise InvalidOffer(-1)
    found = world
    for position, offer in enumerate(offers):
        if not fits(found, offer):
            raise InvalidOffer(position)
        found = _with_offer(found, offer)
    return found


def is_offer(world, offer):
    """Tell whether a value has the form of an offer, with programs and fields of a world."""
    if not isinstance(offer, tuple) or len(offer) < 2 or not isinstance(offer[0], str) or offer[1] not in world:
        return False
    kind, many = offer[0], len(offer)
    if kind == "keep":
        return many == 2
    if kind in ("clear", "leave"):
        return many == 3 and _is_field(world, offer[2])
    if many < 3 or own_or_none(world, offer[1], offer[2]) is None:
        return False
    if kind == "no default":
        return many == 3
    if kind == "write":
        return many == 5 and _is_field(world, offer[3]) and isinstance(offer[4], Map)
    if kind != "read" or many != 6 or not _is_field(world, offer[3]) or not isinstance(offer[4], Map):
        return False
    return isinstance(offer[5], str) and offer[5] in ("first", "last")


def _is_field(world, value):
    return is_name(value) and value in world.fields()


def _with_offer(world, offer):
    """Return the world that an offer which fits makes."""
    kind, program = offer[0], world.program(offer[1])
    own_fields, writes = program.own_fields(), program.writes()
    if kind == "read":
        own_fields[offer[2]] = _reading(own_fields[offer[2]], (offer[3], offer[4]), offer[5])
    elif kind == "write":
        writes[offer[3]] = Write(offer[2], offer[4])
    elif kind == "clear":
        writes[offer[2]] = None
    elif kind == "leave":
        write = writes[offer[2]]
        writes[offer[2]] = Write(write.own, write.mapping, leaves=True)
    elif kind == "no default":
        own = own_fields[offer[2]]
        own_fields[offer[2]] = Own(own.kind, own.sources, settable=own.settable, removable=own.removable)
    keeps = program.keeps or kind == "keep"
    return world.with_program(Program(program.name, own_fields, writes, keeps=keeps))


def _reading(own, source, place):
    sources = (source,) + own.sources if place == "first" else own.sources + (source,)
    return Own(own.kind, sources, default=own.default, settable=own.settable, removable=own.removable)

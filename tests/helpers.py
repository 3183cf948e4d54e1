"""What several tests use: a check of errors, values of other kinds, drawn maps, sets, worlds and documents."""

import unittest

from keptedits.lists import SourceList
from keptedits.maps import NumberMap, TextMap
from keptedits.programs import Own, Program, Write
from keptedits.sets import Numbers, Texts
from keptedits.worlds import World

WORDS = ["a", "b", "c", "ab", "ba"]
LOW, HIGH = -6, 7


class EqualToAll:
    """A value that says to be equal to everything and cannot be a dict key."""

    __hash__ = None

    def __eq__(self, other):
        return True


def odd_values():
    """Return values that are neither numbers nor texts, names, tuples, lists or dicts of such."""
    return [None, True, False, "", "A", "a b", "a1", "\n", "\u00e9", b"a", 1j, object(), EqualToAll(), {1}, [True],
            (True,), {True: True}, [[]], ([],), {"a": []}, range(2), len, int, Numbers(), TextMap()]


class LikeName:
    """A dict key that says to be equal to a name."""

    def __init__(self, name):
        self.name = name

    def __hash__(self):
        return hash(self.name)

    def __eq__(self, other):
        return other == self.name


class KeptCase(unittest.TestCase):
    """A test case that can check errors with their attributes."""

    def assert_error(self, expected, call, *args, **named):
        """Check that the call raises an error of just this class, with just these attributes."""
        with self.assertRaises(type(expected)) as held:
            call(*args, **named)
        self.assertIs(type(held.exception), type(expected))
        told, wanted = vars(held.exception), vars(expected)
        self.assertEqual(set(told), set(wanted))
        for key, value in wanted.items():
            self.assertIs(type(told[key]), type(value), key)
            self.assertTrue(told[key] is value or told[key] == value, (key, told[key], value))


def drawn_numbers(draw):
    """Return a drawn set of integers, of which some have no bound."""
    stretches = []
    for _ in range(draw.randint(0, 3)):
        first = draw.randint(LOW, HIGH)
        last = first + draw.randint(0, 3)
        stretches.append((draw.choice([first, first, first, None]), draw.choice([last, last, last, None])))
    return Numbers(stretches)


def drawn_texts(draw):
    """Return a drawn set of texts."""
    return Texts(draw.sample(WORDS, draw.randint(0, 3)), others=draw.random() < 0.4)


def drawn_number_pieces(draw):
    """Return drawn pieces, which need not be normal."""
    ends = sorted(draw.sample(range(LOW, HIGH), draw.randint(0, 4)))
    pieces, first = [], None
    for last in ends + [None]:
        near = [value for value in (first, last) if value is not None]
        what = draw.choice([None, draw.randint(LOW, HIGH), draw.choice(near + [0])])
        pieces.append((first, last, what))
        first = None if last is None else last + 1
    return pieces


def drawn_number_map(draw):
    """Return a drawn map of integers, often one that takes all to one value."""
    if draw.random() < 0.3:
        return NumberMap.constant_map(draw.randint(0, 2))
    return NumberMap.same() if draw.random() < 0.3 else NumberMap(drawn_number_pieces(draw))


def drawn_text_map(draw):
    """Return a drawn map of texts, often one that takes all to one value."""
    rest = draw.choice([None, None, "a", "b"])
    if draw.random() < 0.3:
        return TextMap({}, rest)
    return TextMap({old: draw.choice(WORDS) for old in draw.sample(WORDS, draw.randint(0, 3))}, rest)


def drawn_map(draw, kind):
    """Return a drawn map of a kind."""
    return drawn_number_map(draw) if kind == "number" else drawn_text_map(draw)


def some_values(kind):
    """Return the values of a kind among which drawn maps tell values apart, in natural order."""
    if kind == "number":
        return sorted(range(LOW - 4, HIGH + 5), key=lambda value: (abs(value), value < 0))
    return sorted(WORDS + ["d", "e", "f"], key=lambda value: (len(value), value))


def drawn_value(draw, kind):
    """Return a drawn value of a kind."""
    return draw.choice(some_values(kind))


def drawn_own(draw, kind, fields):
    """Return a drawn own field over these fields of its kind."""
    sources = [(field, drawn_map(draw, kind)) for field in draw.sample(fields, draw.randint(0, len(fields)))]
    settable = drawn_numbers(draw) if kind == "number" else drawn_texts(draw)
    if settable.size == 1:
        settable = None
    default = drawn_value(draw, kind) if draw.random() < 0.4 else None
    return Own(kind, sources, default=default, settable=settable, removable=draw.random() < 0.6)


def drawn_program(draw, name, fields):
    """Return a drawn program over a dict of fields with their kinds."""
    kinds = {own: draw.choice(sorted(set(fields.values()))) for own in ["f", "g", "h"][:draw.randint(0, 3)]}
    own = {}
    for one, kind in kinds.items():
        own[one] = drawn_own(draw, kind, [field for field in sorted(fields) if fields[field] == kind])
    writes = {}
    for field, kind in fields.items():
        suited = [one for one in kinds if kinds[one] == kind]
        if suited and draw.random() < 0.6:
            writes[field] = Write(draw.choice(suited), drawn_map(draw, kind), leaves=draw.random() < 0.4)
        elif draw.random() < 0.2:
            writes[field] = None
    return Program(name, own, writes, keeps=draw.random() < 0.6)


def drawn_world(draw):
    """Return a drawn world of few fields, mostly of one kind, and of few programs."""
    main = draw.choice(["number", "text"])
    other = "text" if main == "number" else "number"
    fields = {field: draw.choice([main, main, main, other]) for field in ["u", "v", "w", "x"][:draw.randint(1, 4)]}
    names = ["p", "q", "r"][:draw.randint(1, 3)]
    return World(fields, [drawn_program(draw, name, fields) for name in names])


def anew(world):
    """Return an equal world that shares nothing with it."""
    return World(world.fields(), world.programs())


def drawn_document(draw, world):
    """Return a drawn document of a world."""
    return {field: drawn_value(draw, kind) for field, kind in world.fields().items() if draw.random() < 0.5}


def drawn_edit(draw, world, name):
    """Return a drawn edit of a program of a world."""
    edit = {}
    for own, told in world.program(name).own_fields().items():
        given = [value for value in some_values(told.kind) if value in told.settable]
        given = draw.sample(given, min(2, len(given))) + ([None] if told.removable else [])
        if given and draw.random() < 0.6:
            edit[own] = draw.choice(given)
    return edit


def drawn_list(draw, kind, fields):
    """Return a drawn source list of a kind over some of these fields."""
    entries = [(field, drawn_map(draw, kind)) for field in draw.sample(fields, draw.randint(0, len(fields)))]
    end = draw.choice([None, drawn_value(draw, kind), some_values(kind)[draw.randint(0, 2)]])
    return SourceList(kind, entries, end)

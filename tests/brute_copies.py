"""What tests of copies and joins compare with: another look at origins, sides and joined copies, as points 34 to 38 say.

A copy is a plain tuple (document, dict of origins, set of known numbers) here, and its root stands beside it.
"""

from keptedits.passes import read


def root_copy(world, document):
    """Return the copy with a root."""
    return dict(document), {field: ("root",) if field in document else None for field in world.fields()}, set()


def shows(world, copy, name, own):
    """Return what an own field shows of a copy."""
    document, origins, _ = copy
    told = world.program(name).own_field(own)
    value = read(world, name, document).get(own)
    fields = [field for field, _ in told.sources]
    present = [field for field in fields if field in document]
    if present:
        return value, origins[present[0]]
    hands = sorted(origins[field] for field in fields if origins[field] is not None)
    if hands:
        return value, hands[-1]
    return value, None if told.default is None else ("made",)


def stepped(world, copy, name, given, numbers):
    """Return the copy behind a step whose given own fields are all edited."""
    document, origins, known = copy
    program = world.program(name)
    shown = {own: shows(world, copy, name, own) for own in program.own_fields()}
    behind, found = {}, {}
    for field in world.fields():
        was = (document.get(field), origins[field])
        gone = (None, origins[field] if field not in document else None)
        write = program.writes().get(field)
        if field not in program.writes():
            now = was if program.keeps else gone
        elif write is None:
            now = gone
        elif write.own in given:
            value = given[write.own]
            now = (None if value is None else write.mapping.at(value), ("hand", numbers[write.own]))
        else:
            value, origin = shown[write.own]
            if value is not None:
                now = (write.mapping.at(value), origin)
            elif write.leaves:
                now = was
            else:
                now = (None, origin) if origin is not None and origin[0] == "hand" else gone
        if now[0] is not None:
            behind[field] = now[0]
        found[field] = now[1]
    return behind, found, known | set(numbers.values())


def effect_of(world, copy, name, edit):
    """Return the entries of an edit that edit."""
    worth = read(world, name, copy[0])
    return {own: value for own, value in edit.items() if worth.get(own) != value}


def readings(world, name):
    """Return all readings of a join, sorted."""
    program = world.program(name)
    found = [("", field) for field in world.fields() if program.keeps and field not in program.writes()]
    return sorted(found + [(one.name, own) for one in world.programs() for own in one.own_fields()])


def shown_at(world, copy, reading):
    """Return the value (None if no source is present) and the number of the hand, or None, of a reading."""
    if reading[0] == "":
        value, origin = copy[0].get(reading[1]), copy[1][reading[1]]
    else:
        value, origin = shows(world, copy, reading[0], reading[1])
        sources = [field for field, _ in world.program(reading[0]).own_field(reading[1]).sources]
        value = value if any(field in copy[0] for field in sources) else None
    return value, origin[1] if origin is not None and origin[0] == "hand" else None


def sides(world, copies, reading):
    """Return the sides of a reading."""
    told = [shown_at(world, copy, reading) for copy in copies]
    found = []
    for place, (value, number) in enumerate(told):
        overtaken = any(other != place and number in copies[other][2] and (told[other][1] or 0) > number
                        for other in range(len(copies)) if number is not None)
        if number is not None and not overtaken:
            found.append((place, number, value))
    return found


def split(world, copies, name):
    """Return the readings that are split, sorted."""
    return [reading for reading in readings(world, name) if len({side[2] for side in sides(world, copies, reading)}) > 1]


def joined(world, copies, root, name, choices, number):
    """Return the joined copy."""
    given, numbers = {}, {}
    for reading in readings(world, name):
        told = sides(world, copies, reading)
        if reading[0] in ("", name) and told:
            given[reading] = choices[reading] if reading in choices else told[0][2]
            numbers[reading] = number if reading in choices else max(side[1] for side in told)
    own = [reading for reading in given if reading[0] == name]
    document, origins, _ = stepped(world, root_copy(world, root), name, {one[1]: given[one] for one in own},
                                   {one[1]: numbers[one] for one in own})
    for reading in given:
        if reading[0] == "":
            document.pop(reading[1], None)
            if given[reading] is not None:
                document[reading[1]] = given[reading]
            origins[reading[1]] = ("hand", numbers[reading])
    known = set().union(*[copy[2] for copy in copies]) | ({number} if choices else set())
    return document, origins, known


def due(world, copies, root, reading):
    """Return the value that is due at the reading of an own field that is not split."""
    told = sides(world, copies, reading)
    if not told:
        return shows(world, root_copy(world, root), *reading)[0]
    return world.program(reading[0]).own_field(reading[1]).default if told[0][2] is None else told[0][2]


def mixed(world, copies, root, name, choices, number):
    """Return the mixed readings, sorted."""
    made = joined(world, copies, root, name, choices, number)
    apart = split(world, copies, name)
    return [reading for reading in readings(world, name) if reading[0] and reading not in apart
            and shows(world, made, *reading)[0] != due(world, copies, root, reading)]


def unseen(world, copies):
    """Return the numbers that no own field shows of any copy, sorted."""
    shown = {shows(world, copy, one.name, own)[1] for copy in copies for one in world.programs() for own in one.own_fields()}
    return sorted(number for number in set().union(*[copy[2] for copy in copies]) if ("hand", number) not in shown)


def told_copy(copy):
    """Return a Copy of the package as a plain tuple."""
    return copy.document(), {field: copy.origin(field) for field in copy.world.fields()}, set(copy.known)


def drawn_copies(draw, world, start, many, edit_of, most=4):
    """Return drawn Copies beside the same as plain tuples; some steps are taken ahead of the parting."""
    number = 0
    found = []
    for _ in range(many):
        copy, plain = draw.choice(found)[:2] if found and draw.random() < 0.4 else (start, root_copy(world, start.root()))
        for _ in range(draw.randint(0, most)):
            name = draw.choice(world.names())
            edit = edit_of(draw, world, name)
            number += 1
            change = effect_of(world, plain, name, edit)
            plain = stepped(world, plain, name, change, {own: number for own in change})
            copy = copy.stepped(name, edit, number=number)
        found.append((copy, plain))
    return [one for one, _ in found], [one for _, one in found], number

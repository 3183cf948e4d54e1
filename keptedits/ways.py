"""Ways: beginnings and steps that lead to a document with a presence and with wanted values of up to two fields."""

from keptedits.sets import full_set, kind_of, set_of


def way_to_values(world, spread, pairs, presence, wanted):
    """Return a way to a document with a presence that comes about, with these values, which come about together.

    The pairs are not looked at where fewer than two fields are wanted.
    """
    steps = []
    while True:
        fact = _fact_about(spread, pairs, presence, wanted)
        cause = spread.cause_of(presence) if fact is None else fact.cause
        if cause[0] == "any":
            return (("any", _any_document(world, spread.fields_of(presence), wanted)), _turned(steps))
        if cause[0] == "document":
            return (("document", cause[1]), _turned(steps))
        how, presence, name, end = cause
        edit = _least_edit(world.program(name), spread.move(presence, name).edits_at(end))
        wanted = _wanted_ahead(spread, fact, wanted, edit)
        if how == "new":
            return (("new", name, edit), _turned(steps))
        steps.append((name, edit))


def _turned(steps):
    return list(reversed(steps))


def _any_document(world, fields, wanted):
    return {field: wanted.get(field, full_set(world.kind_of_field(field)).least()) for field in fields}


def _fact_about(spread, pairs, presence, wanted):
    """Return the first fact that tells the wanted values, None if nothing is wanted or all documents come about."""
    fields = sorted(wanted)
    if len(fields) == 0 or spread.can_be_any():
        return None
    atoms = spread.atoms_for(fields[0])
    bits = [atoms.bit_of(wanted[field]) for field in fields]
    if len(fields) == 1:
        return spread.fact_about(presence, fields[0], bits[0])
    for fact in pairs.reasons(presence, fields[0], fields[1]):
        if fact.one_bits & bits[0]:
            if _tells_partner(fact, bits[1], wanted[fields[0]] == wanted[fields[1]]):
                return fact
    return None


def _tells_partner(fact, bit, is_equal):
    return is_equal if fact.other_bits is None else fact.other_bits & bit != 0


def _least_edit(program, told):
    """Return the edit that gives the least settable values, and removes, where an end asks for it."""
    return {own: program.own_field(own).settable.least() if told[own] else None for own in told}


def _wanted_ahead(spread, fact, wanted, edit):
    """Return the values that are wanted ahead of a step, and put what it has to give into its edit."""
    found = {}
    if fact is None:
        return found
    for route, value in zip(fact.routes, _values_given(spread, fact, wanted)):
        if route.source is not None:
            found[route.source] = value
        elif route.given:
            edit[route.by_own] = value
    return found


def _values_given(spread, fact, wanted):
    """Return a list of values, among those that a fact gives to its routes, that are taken to the wanted ones."""
    atoms = spread.atoms_for(fact.routes[0].target)
    origins = [_origins(route, wanted[route.target]) for route in fact.routes]
    if len(fact.routes) == 1:
        return [origins[0].shared(atoms.values_of(fact.given)).least()]
    both = origins[0].shared(origins[1]).shared(atoms.values_of(fact.given.equal))
    if not both.is_empty:
        return [both.least(), both.least()]
    found = []
    for bits, partners in fact.given.blocks:
        shared = [origins[0].shared(atoms.values_of(bits)), origins[1].shared(atoms.values_of(partners))]
        if not any([values.is_empty for values in shared]):
            found.append([values.least() for values in shared])
    return found[0]


def _origins(route, value):
    """Return the set of the values that the maps of a route take to a value."""
    values = set_of(kind_of(value), value)
    for mapping in reversed(route.maps):
        values = mapping.before(values)
    return values

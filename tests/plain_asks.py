"""What [5.2] to [5.5] say of a world and asks, as plainly as possible, for comparing."""

from tests.test_ranges import member
from tests.test_targets import plain_hold


def applies(asks, need):
    return plain_hold(need[3], asks[1])


def plain_seen(world, asks, name):
    """All (label, release) of the seen releases of a name, in the order of the stores, then of the versions."""
    _, sight, early = asks[3]
    stores = [(label, dict(shelves)[name]) for label, shelves in world if name in dict(shelves)]
    if sight == "first":
        stores = stores[:1]
    return [(label, one) for label, releases in stores for one in releases
            if (name, (label, one[0])) in asks[2] or (not one[5] and (early or one[0][3] == 3))]


def plain_needs(asks, release):
    needs = list(release[1])
    for _, more in release[3]:
        needs += more
    return [need for need in needs if applies(asks, need)]


def plain_stand_ins(world, asks, name):
    others = {other for _, shelves in world for other, _ in shelves} - {name}
    return [(other, label, one[0], own) for other in others for label, one in plain_seen(world, asks, other)
            for stood, own in one[4] if stood == name]


def plain_reached(world, asks):
    wished = []
    for need in asks[0]:
        if applies(asks, need) and need[0] not in wished:
            wished.append(need[0])
    found = set(wished)
    while True:
        more = set(found)
        for name in found:
            for _, one in plain_seen(world, asks, name):
                more |= {need[0] for need in plain_needs(asks, one)}
            more |= {other for other, _, _, _ in plain_stand_ins(world, asks, name)}
        if more == found:
            return tuple(wished) + tuple(sorted(found - set(wished)))
        found = more


def plain_variables(world, asks):
    names = plain_reached(world, asks)
    asking = [need for need in asks[0] if applies(asks, need)]
    for name in names:
        for _, one in plain_seen(world, asks, name):
            asking += plain_needs(asks, one)
    options = {(need[0], option) for need in asking for option in need[2]}
    return tuple((name, "") for name in names) + tuple(sorted(options))


def plain_states(world, asks, variable):
    name, option = variable
    if option:
        return (("off",), ("on",))
    down = asks[3][0] == "newest"
    labels = [label for label, _ in world]
    own = [("own", label, one[0]) for label, one in plain_seen(world, asks, name)]
    kept = [state for state in own if (name, state[1:]) in asks[2]]
    others = [state for state in own if state not in kept]
    others = sorted(others, key=lambda state: state[2], reverse=down)
    # Sorting keeps the order of what is equal, so the least important order comes first.
    stand = [("for", *row) for row in plain_stand_ins(world, asks, name)]
    stand = sorted(stand, key=lambda state: labels.index(state[2]))
    stand = sorted(stand, key=lambda state: state[3], reverse=down)
    stand = sorted(stand, key=lambda state: state[1])
    stand = sorted(stand, key=lambda state: state[4], reverse=down)
    return (*kept, ("none",), *others, *stand)


def plain_right(world, asks, choice):
    variables = plain_variables(world, asks)
    held = {variable: plain_states(world, asks, variable)[number] for variable, number in zip(variables, choice)}

    def has_version_in(name, span):
        state = held[(name, "")]
        return state != ("none",) and member(span, state[-1])

    def met(needs):
        return all(has_version_in(name, span) and all(held[(name, option)] == ("on",) for option in options)
                   for name, span, options, condition in needs if plain_hold(condition, asks[1]))

    def release_of(name):
        kind, label, version = held[(name, "")]
        assert kind == "own"
        return next(one for at, one in plain_seen(world, asks, name) if at == label and one[0] == version)

    if not met(asks[0]):
        return False
    for (name, option), state in held.items():
        if state[0] == "own":
            release = release_of(name)
            if not met(release[1]):
                return False
            if any((other, "") in held and has_version_in(other, span) for other, span in release[2]):
                return False
        if state[0] == "for" and held[(state[1], "")] != ("own", state[2], state[3]):
            return False
        if state[0] == "on":
            extras = dict(release_of(name)[3]) if held[(name, "")][0] == "own" else {}
            if option not in extras or not met(extras[option]):
                return False
    return True

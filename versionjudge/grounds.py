"""The problem of asks, and the cause of each of its given bars ([8.1])."""

from versionjudge.asks import meets, scene_of
from versionjudge.bars import common_states
from versionjudge.scenes import NONE, OFF_AT, ON_AT


class Grounds:
    """What asks see of a world, their problem, and the causes of its given bars."""

    def __init__(self, scene):
        sizes = tuple([len(few) for few in scene.states])
        rows = [(cause, bar_of_terms(sizes, terms)) for cause, terms in all_rows(scene)]
        rows = [row for row in rows if row[1] is not None]
        self.scene = scene
        self.problem = (sizes, tuple([bar for _, bar in rows]))
        self.causes = tuple([cause for cause, _ in rows])


def grounds_of(world, asks):
    """What follows from a world and asks, which must be right."""
    return Grounds(scene_of(world, asks))


def bar_of_terms(sizes, terms):
    """The bar of terms, of which several may belong to one variable; None if no choice meets it."""
    found = {}
    for i, few in terms:
        found[i] = common_states(found.get(i), few)
    if () in list(found.values()):
        return None
    return tuple([(i, found[i]) for i in sorted(found) if len(found[i]) < sizes[i]])


def all_rows(scene):
    """Each cause with the terms of its bar, in order."""
    rows = []
    for k, wish in enumerate(scene.wishes):
        rows.extend(need_rows(scene, wish, ("wish", k), []))
    for i, (_, option) in enumerate(scene.variables):
        if option != "":
            rows.extend(option_rows(scene, i))
        else:
            rows.extend([row for s in range(len(scene.states[i])) for row in state_rows(scene, i, s)])
    return rows


def need_rows(scene, need, cause, terms):
    """The rows of a wish or a need, none if it does not apply; it is asked for where the terms are met."""
    if not scene.applies(need):
        return []
    name, span, options, _ = need
    at = scene.places[(name, "")]
    rows = [((*cause, ""), [*terms, (at, numbers_of(scene, at, lambda state: not meets(state, span)))])]
    for option in options:
        rows.append(((*cause, option), [*terms, (scene.places[(name, option)], (OFF_AT,))]))
    return rows


def numbers_of(scene, at, fits):
    """The numbers of the states of a variable that fit."""
    return tuple([number for number, state in enumerate(scene.states[at]) if fits(state)])


def state_rows(scene, i, s):
    """The rows of a state of a package."""
    state = scene.states[i][s]
    if state == NONE:
        return []
    if state[0] == "for":
        at = scene.places[(state[1], "")]
        base = ("own", state[2], state[3])
        return [(("stand", i, s), [(i, (s,)), (at, numbers_of(scene, at, lambda other: other != base))])]
    release = scene.release_at(scene.variables[i][0], state)
    rows = []
    for j, need in enumerate(release[1]):
        rows.extend(need_rows(scene, need, ("need", i, s, j), [(i, (s,))]))
    for j, (name, span) in enumerate(release[2]):
        if (name, "") in scene.places:
            rows.append((("bar", i, s, j), [(i, (s,)), barred_term(scene, name, span)]))
    return rows


def barred_term(scene, name, span):
    at = scene.places[(name, "")]
    return (at, numbers_of(scene, at, lambda state: meets(state, span)))


def option_rows(scene, i):
    """The rows of an option."""
    name, option = scene.variables[i]
    at = scene.places[(name, "")]
    extras = [scene.extra_at(name, state, option) for state in scene.states[at]]
    without = tuple([s for s in range(len(extras)) if extras[s] is None])
    rows = [(("option", i), [(i, (ON_AT,)), (at, without)])]
    for s, needs in enumerate(extras):
        if needs is not None:
            for j, need in enumerate(needs):
                rows.extend(need_rows(scene, need, ("extra", i, s, j), [(i, (ON_AT,)), (at, (s,))]))
    return rows

"""Plans of change from one right choice to another one, in which each standing is right (part 12)."""

from versionjudge.bars import is_met_by
from versionjudge.errors import BadChoice, BadWord, NotRight
from versionjudge.grounds import grounds_of
from versionjudge.problems import is_right_for
from versionjudge.values import are_ascending_words, is_integer, is_state_tuple, is_tuple, is_tuple_of


class Change:
    """Two right choices for a world and asks, and what lies between them."""

    def __init__(self, grounds, one, other):
        self.problem = grounds.problem
        self.owners = [name for name, _ in grounds.scene.variables]
        self.one = one
        self.other = other
        self.names = tuple(sorted({name for name, s, t in zip(self.owners, one, other) if s != t}))

    def standing_after(self, names):
        """The choice with the states of the other one at these names."""
        return tuple([t if name in names else s for name, s, t in zip(self.owners, self.one, self.other)])

    def is_right_after(self, names):
        return is_right_for(self.problem, self.standing_after(names))

    def owners_of(self, bar):
        """The names at whose variables a bar has terms, ascending."""
        return sorted({self.owners[i] for i, _ in bar})


def change_of(world, asks, one, other):
    """What lies between two choices, which must be right."""
    grounds = grounds_of(world, asks)
    for choice in (one, other):
        if not is_state_tuple(grounds.problem[0], choice):
            raise BadChoice(choice)
    for choice in (one, other):
        if not is_right_for(grounds.problem, choice):
            raise NotRight(choice)
    return Change(grounds, one, other)


def moved(world, asks, one, other):
    return change_of(world, asks, one, other).names


def standing(world, asks, one, other, names):
    change = change_of(world, asks, one, other)
    if not are_ascending_words(names) or not all([name in change.names for name in names]):
        raise BadWord(names)
    return change.standing_after(names)


def is_plan(world, asks, one, other, thing):
    return is_plan_for(change_of(world, asks, one, other), thing)


def is_plan_for(change, thing):
    """Whether any value is a plan."""
    if not is_tuple_of(thing, are_some_words):
        return False
    if sorted([name for lot in thing for name in lot]) != list(change.names):
        return False
    return all([change.is_right_after([name for lot in thing[:k] for name in lot]) for k in range(len(thing) + 1)])


def are_some_words(thing):
    return are_ascending_words(thing) and thing != ()


def binds(world, asks, one, other):
    return tuple(bindings(change_of(world, asks, one, other)))


def bindings(change):
    """All (a, b, j) such that the name a binds the name b by the given bar j, ascending."""
    found = []
    for j, bar in enumerate(change.problem[1]):
        names = change.owners_of(bar)
        # With less than two moved names a bar is met by no standing, since it is met neither before nor after.
        if len(names) == 2:
            for a, b in ((names[0], names[1]), (names[1], names[0])):
                if is_met_by(bar, change.standing_after((a,))):
                    found.append((a, b, j))
    return sorted(found)


def names_bound(triples, name):
    """The names that a name binds, directly or through others."""
    found = []
    waiting = [name]
    while waiting:
        binding = waiting.pop()
        for a, b, _ in triples:
            if a == binding and b not in found:
                found.append(b)
                waiting.append(b)
    return found


def all_bound(change):
    """For each moved name those that it binds, directly or through others."""
    triples = bindings(change)
    return {name: names_bound(triples, name) for name in change.names}


def lot_of(bound, name):
    """The names that are in one tuple with a name in every plan, ascending."""
    return tuple([other for other in sorted(bound) if other == name or (other in bound[name] and name in bound[other])])


def all_lots(bound):
    """The tuples of the plans with the most tuples, ascending."""
    return sorted({lot_of(bound, name) for name in bound})


def lots(world, asks, one, other):
    return tuple(all_lots(all_bound(change_of(world, asks, one, other))))


def judge_plan(world, asks, one, other):
    change = change_of(world, asks, one, other)
    triples = bindings(change)
    bound = all_bound(change)
    # What binds another tuple binds all that this one binds, and more, so it comes later.
    plan = sorted(all_lots(bound), key=lambda lot: len(set([*lot, *bound[lot[0]]])))
    return ("plan", tuple(plan), tuple([ring_of(triples, lot) for lot in plan]))


def ring_of(triples, lot):
    """Triples around a ring through all names of a tuple, () for a single name."""
    ring = []
    for at, name in enumerate(lot):
        # What lies between two names of a tuple is bound by the one and binds the other one, so it is in it, too.
        ring.extend(path_between(triples, name, lot[(at + 1) % len(lot)]))
    return tuple(ring)


def path_between(triples, start, goal):
    """The fewest triples that lead from a name to another one, none if they are the same."""
    paths = {start: []}
    waiting = [start]
    while goal not in paths:
        name = waiting.pop(0)
        for triple in triples:
            if triple[0] == name and triple[1] not in paths:
                paths[triple[1]] = [*paths[name], triple]
                waiting.append(triple[1])
    return paths[goal]


def plan_holds(world, asks, one, other, thing):
    change = change_of(world, asks, one, other)
    if not is_tuple(thing, 3) or thing[0] != "plan":
        return False
    _, plan, rings = thing
    if not is_plan_for(change, plan) or not is_tuple(rings, len(plan)):
        return False
    triples = bindings(change)
    return all([is_ring(triples, lot, ring) for lot, ring in zip(plan, rings)])


def is_ring(triples, lot, thing):
    """Whether any value is triples around a ring through all names of a tuple, () for a single name."""
    if len(lot) == 1:
        return thing == ()
    # Python calls True and 1 equal; the document does not.
    if not is_tuple_of(thing, lambda triple: triple in triples and is_integer(triple[2])):
        return False
    if sorted({triple[0] for triple in thing}) != list(lot):
        return False
    return all([thing[k - 1][1] == thing[k][0] for k in range(len(thing))])


def ahead(world, asks, one, other):
    bound = all_bound(change_of(world, asks, one, other))
    return tuple([(a, b) for a in sorted(bound) for b in sorted(bound) if a in bound[b] and b not in bound[a]])

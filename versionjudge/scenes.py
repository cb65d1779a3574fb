"""What asks see of a world: releases, reached names, variables and their states ([5.2] to [5.4])."""

from versionjudge.stores import all_needs, names_in, shown_in, stand_ins_among
from versionjudge.targets import holds_at
from versionjudge.versions import is_early

NONE = ("none",)
OFF = ("off",)
ON = ("on",)
# The state numbers of these two.
OFF_AT = 0
ON_AT = 1


class Scene:
    """A world and asks, both known to be right, and what follows from them."""

    def __init__(self, world, asks):
        wishes, target, kept, manner = asks
        self.wishes = wishes
        self.target = target
        self.kept = {name: place for name, place in kept}
        self.manner = manner
        self.labels = [label for label, _ in world]
        self.seen = {name: self.seen_among(name, shown_in(world, name, manner[1])) for name in names_in(world)}
        self.names = self.reached_names()
        self.variables = (*[(name, "") for name in self.names], *self.asked_options())
        self.states = tuple([self.states_of(name, option) for name, option in self.variables])
        self.places = {variable: i for i, variable in enumerate(self.variables)}

    def seen_among(self, name, releases):
        """The releases of a name, given with their labels, that are seen."""
        return [(label, release) for label, release in releases if self.is_seen(name, label, release)]

    def is_seen(self, name, label, release):
        """Whether a shown release is seen."""
        if self.kept.get(name) == (label, release[0]):
            return True
        return not release[5] and (self.manner[2] or not is_early(release[0]))

    def applies(self, need):
        """Whether a need, or wish, applies."""
        return holds_at(need[3], self.target)

    def applying(self, needs):
        """Those of the needs, or wishes, that apply."""
        return [need for need in needs if self.applies(need)]

    def reached_names(self):
        wished = {need[0]: True for need in self.applying(self.wishes)}
        found = {}
        waiting = list(wished)
        while waiting:
            name = waiting.pop()
            if name not in found:
                found[name] = True
                waiting.extend(self.names_beside(name))
        others = sorted([name for name in found if name not in wished])
        return (*wished, *others)

    def names_beside(self, name):
        """The names that are reached if this name is."""
        needed = [need[0] for need in self.needs_behind(name)]
        standing = [row[0] for row in self.stand_ins_of(name)]
        return [*needed, *standing]

    def needs_behind(self, name):
        """The needs that apply, of the seen releases of a name and of their extras."""
        return self.applying([need for _, release in self.seen.get(name, ()) for need in all_needs(release)])

    def stand_ins_of(self, name):
        """All (other, label, version, own) with a seen release of another name that can stand in for this one."""
        return stand_ins_among([(other, self.seen[other]) for other in self.seen if other != name], name)

    def asked_options(self):
        """The variables of options, ascending."""
        asking = self.applying(self.wishes)
        for name in self.names:
            asking.extend(self.needs_behind(name))
        return sorted({(need[0], option) for need in asking for option in need[2]})

    def states_of(self, name, option):
        if option != "":
            return (OFF, ON)
        place = self.kept.get(name)
        owned = self.own_states(name)
        first = [state for state in owned if state[1:] == place]
        later = [state for state in owned if state[1:] != place]
        return (*first, NONE, *later, *self.for_states(name))

    def own_states(self, name):
        rows = [(self.rank(release[0]), self.labels.index(label), ("own", label, release[0]))
                for label, release in self.seen.get(name, ())]
        return [row[2] for row in sorted(rows)]

    def for_states(self, name):
        rows = [(self.rank(own), other, self.rank(version), self.labels.index(label), (label, version, own))
                for other, label, version, own in self.stand_ins_of(name)]
        return [("for", row[1], *row[4]) for row in sorted(rows)]

    def rank(self, version):
        """What sorts versions as the way of the asks states."""
        if self.manner[0] == "oldest":
            return version
        return tuple([-number for number in version])

    def release_at(self, name, state):
        """The release of a name whose state is "own"."""
        return [release for label, release in self.seen[name] if (label, release[0]) == state[1:]][0]

    def extra_at(self, name, state, option):
        """The needs of an option of a package in a state, None if the state is not "own" with such an option."""
        if state[0] == "own":
            for other, needs in self.release_at(name, state)[3]:
                if other == option:
                    return needs
        return None

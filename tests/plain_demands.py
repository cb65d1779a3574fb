"""What [8.1] says of a world and asks, as plainly as possible, and small worlds and asks for the other tests."""

import itertools

from tests.plain_asks import applies, plain_right, plain_seen, plain_states, plain_variables
from tests.test_ranges import member
from tests.worlds import ALL, ALWAYS, LINUX, ONE, THREE, TWO, asks_for, need, part_of, release, some_asks, some_world


class Demands:
    """The problem of asks in the form of sets: a bar is a list of pairs of a variable and a set of its states."""

    def __init__(self, world, asks):
        self.world, self.asks = world, asks
        self.variables = plain_variables(world, asks)
        self.states = {variable: plain_states(world, asks, variable) for variable in self.variables}
        self.sizes = tuple(len(self.states[variable]) for variable in self.variables)
        self.found = []
        for k, wish in enumerate(asks[0]):
            self.add_need(("wish", k), wish, [])
        for i, (name, option) in enumerate(self.variables):
            if option:
                self.add_option(i, name, option)
            else:
                for s, state in enumerate(self.states[name, ""]):
                    self.add_state(i, s, name, state)
        self.causes = tuple(cause for cause, _ in self.found)
        self.problem = (self.sizes, tuple(bar for _, bar in self.found))

    def add(self, cause, *terms):
        whole = {i: set(range(size)) for i, size in enumerate(self.sizes)}
        left = {i: set(states) for i, states in whole.items()}
        for variable, states in terms:
            left[self.variables.index(variable)] &= {self.states[variable].index(state) for state in states}
        if all(left.values()):
            self.found.append((cause, tuple((i, tuple(sorted(left[i]))) for i in left if left[i] != whole[i])))

    def with_version(self, name, span):
        return [state for state in self.states[name, ""] if state != ("none",) and member(span, state[-1])]

    def add_need(self, cause, wanted, terms):
        if applies(self.asks, wanted):
            name, span, options, _ = wanted
            good = self.with_version(name, span)
            self.add((*cause, ""), *terms, ((name, ""), [s for s in self.states[name, ""] if s not in good]))
            for option in options:
                self.add((*cause, option), *terms, ((name, option), [("off",)]))

    def release(self, name, state):
        seen = {(label, one[0]): one for label, one in plain_seen(self.world, self.asks, name)}
        return seen[state[1:]]

    def add_state(self, i, s, name, state):
        here = ((name, ""), [state])
        if state[0] == "own":
            one = self.release(name, state)
            for j, wanted in enumerate(one[1]):
                self.add_need(("need", i, s, j), wanted, [here])
            for j, (other, span) in enumerate(one[2]):
                if (other, "") in self.variables:
                    self.add(("bar", i, s, j), here, ((other, ""), self.with_version(other, span)))
        if state[0] == "for":
            _, other, label, version, _ = state
            others = [wrong for wrong in self.states[other, ""] if wrong != ("own", label, version)]
            self.add(("stand", i, s), here, ((other, ""), others))

    def add_option(self, i, name, option):
        here = ((name, option), [("on",)])
        extras = {state: dict(self.release(name, state)[3]) for state in self.states[name, ""] if state[0] == "own"}
        good = [state for state in extras if option in extras[state]]
        self.add(("option", i), here, ((name, ""), [state for state in self.states[name, ""] if state not in good]))
        for state in good:
            s = self.states[name, ""].index(state)
            for j, wanted in enumerate(extras[state][option]):
                self.add_need(("extra", i, s, j), wanted, [here, ((name, ""), [state])])


def product_of(sizes):
    whole = 1
    for size in sizes:
        whole *= size
    return whole


def plain_choices(world, asks):
    """All choices for a world and asks."""
    sizes = [len(plain_states(world, asks, variable)) for variable in plain_variables(world, asks)]
    return list(itertools.product(*[range(size) for size in sizes]))


def plain_rights(world, asks):
    """All right choices for a world and asks, in order."""
    return [choice for choice in plain_choices(world, asks) if plain_right(world, asks, choice)]


def small_scenes(chance, many, product=60):
    """Worlds and asks of all kinds with at least two variables and few choices."""
    while many:
        world = some_world(chance)
        asks = some_asks(chance, world)
        sizes = [len(plain_states(world, asks, variable)) for variable in plain_variables(world, asks)]
        if len(sizes) > 1 and product_of(sizes) <= product:
            many -= 1
            yield world, asks


SPANS = [ALL, ALL, ALL, ((ONE, TWO),), ((TWO, None),), ((TWO, THREE),)]


def kind_release(chance, names, version):
    needs = [need(name, chance.choice(SPANS), ("fast",) if chance.random() < 0.2 else (),
                  LINUX if chance.random() < 0.2 else ALWAYS) for name in part_of(chance, names, 1)]
    bars = [(name, ((ONE, TWO),)) for name in part_of(chance, names, 1)] if chance.random() < 0.3 else []
    extras = [("fast", tuple(need(name) for name in part_of(chance, names, 1)))] if chance.random() < 0.7 else []
    stands = [(name, version) for name in part_of(chance, names, 1)] if chance.random() < 0.1 else []
    return release(version, tuple(needs), tuple(bars), tuple(extras), tuple(stands))


def kind_scenes(chance, many, product=300):
    """Worlds and asks that often have several right choices, and few choices in all."""
    names = ["app", "base", "core", "tool"]
    while many:
        shelves = []
        for name in part_of(chance, names, 6):
            versions = part_of(chance, [ONE, TWO, THREE], 3) or [TWO]
            shelves.append((name, tuple(kind_release(chance, names, version) for version in versions)))
        world = (("main", tuple(shelves)),)
        wishes = [need(name, chance.choice(SPANS)) for name in part_of(chance, names, 2)]
        asks = asks_for(*wishes, target=(("os", "linux"),) if chance.random() < 0.5 else (),
                        way=chance.choice(["newest", "oldest"]))
        sizes = [len(plain_states(world, asks, variable)) for variable in plain_variables(world, asks)]
        if len(sizes) > 1 and product_of(sizes) <= product and plain_rights(world, asks):
            many -= 1
            yield world, asks

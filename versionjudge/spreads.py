"""Choices for several targets at once, which agree where they choose a package (part 13)."""

from versionjudge.asks import check_asks
from versionjudge.errors import BadTargets
from versionjudge.grounds import grounds_of
from versionjudge.problems import is_right_for
from versionjudge.resolver import certificate_for, chosen_for, is_certificate_for
from versionjudge.scenes import NONE
from versionjudge.stores import check_world
from versionjudge.targets import is_target
from versionjudge.values import is_state_tuple, is_tuple, is_tuple_of

MOST_TARGETS = 3


class Spread:
    """What asks see of a world at each of several targets, and the problem of all of them together."""

    def __init__(self, parts):
        self.parts = parts
        self.starts = [sum([len(part.problem[0]) for part in parts[:k]]) for k in range(len(parts))]
        self.problem = (
            tuple([size for part in parts for size in part.problem[0]]),
            (*self.own_bars(), *self.bars_between()),
        )

    def own_bars(self):
        return [tuple([(start + i, few) for i, few in bar])
                for start, part in zip(self.starts, self.parts) for bar in part.problem[1]]

    def bars_between(self):
        many = len(self.parts)
        return [bar for one in range(many) for other in range(one + 1, many) for bar in self.bars_of_two(one, other)]

    def bars_of_two(self, one, other):
        """The bars for the names that are reached at two of the targets."""
        bars = []
        first, second = self.parts[one].scene, self.parts[other].scene
        for name in first.names:
            if name in second.names:
                at, to = first.places[(name, "")], second.places[(name, "")]
                for s, state in enumerate(first.states[at]):
                    few = tuple([t for t, held in enumerate(second.states[to]) if held not in (NONE, state)])
                    if state != NONE and few != ():
                        bars.append(((self.starts[one] + at, (s,)), (self.starts[other] + to, few)))
        return bars

    def choices_in(self, choice):
        """The choice for each of the targets."""
        return tuple([choice[start:start + len(part.problem[0])] for start, part in zip(self.starts, self.parts)])


def spread_of(world, asks, targets):
    """What follows from a world, asks and targets, which must be right."""
    check_world(world)
    check_asks(asks)
    if not are_targets(targets):
        raise BadTargets(targets)
    wishes, _, kept, manner = asks
    return Spread([grounds_of(world, (wishes, target, kept, manner)) for target in targets])


def are_targets(thing):
    """Whether a value is a tuple of one to three distinct targets."""
    if not is_tuple_of(thing, is_target) or not 1 <= len(thing) <= MOST_TARGETS:
        return False
    return len(set(thing)) == len(thing)


def spread_problem(world, asks, targets):
    return spread_of(world, asks, targets).problem


def is_right_spread(world, asks, targets, thing):
    spread = spread_of(world, asks, targets)
    if not is_tuple(thing, len(spread.parts)):
        return False
    if not all([is_state_tuple(part.problem[0], choice) for part, choice in zip(spread.parts, thing)]):
        return False
    return is_right_for(spread.problem, tuple([state for choice in thing for state in choice]))


def spread_answer(world, asks, targets):
    return certificate_for(spread_problem(world, asks, targets))


def spread_holds(world, asks, targets, thing):
    return is_certificate_for(spread_problem(world, asks, targets), thing)


def first_spread(world, asks, targets):
    spread = spread_of(world, asks, targets)
    return spread.choices_in(chosen_for(spread.problem))

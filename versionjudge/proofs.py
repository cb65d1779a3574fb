"""Lines of a problem, the search for a right choice, and lines where there is none ([6.3], [6.5])."""

from versionjudge.bars import joined_bar, term_at
from versionjudge.values import is_position, is_tuple


def bars_along(problem, thing):
    """The bars of the lines of a problem, None for any value that is not lines."""
    if not isinstance(thing, tuple):
        return None
    bars = []
    for line in thing:
        bar = bar_of_line(problem, bars, line)
        if bar is None:
            return None
        bars.append(bar)
    return tuple(bars)


def bar_of_line(problem, bars, line):
    """The bar of a line behind lines with these bars, None for any value that is not such a line."""
    sizes, given = problem
    if is_tuple(line, 2) and line[0] == "given" and is_position(line[1], len(given)):
        return given[line[1]]
    if not is_tuple(line, 4) or line[0] != "join" or not is_position(line[1], len(sizes)):
        return None
    if not is_position(line[2], len(bars)) or not is_position(line[3], len(bars)):
        return None
    i, one, other = line[1], bars[line[2]], bars[line[3]]
    if term_at(one, i) == () or term_at(other, i) == ():
        return None
    return joined_bar(sizes, i, one, other)


class Prover:
    """A problem, and lines of it that grow with each bar that they are made to cover.

    It branches over the variables in order, each into its allowed states: the allowed states are a tuple with a
    tuple of states for each variable, and a node is the tuple of the states of the variables before it.
    """

    def __init__(self, problem):
        self.sizes, self.given = problem
        self.lines = []
        self.bars = []
        self.places = {}
        # The node at which all terms of a bar are decided is the one behind its last variable.
        self.decided = [[] for _ in range(len(self.sizes) + 1)]
        for j, bar in enumerate(self.given):
            self.decided[bar[-1][0] + 1 if bar != () else 0].append(j)

    def bar_met(self, node):
        """The position of a given bar that everything behind a node meets, None if there is none yet."""
        for j in self.decided[len(node)]:
            if all([node[i] in few for i, few in self.given[j]]):
                return j
        return None

    def first_right(self, allowed, node=()):
        """The first right choice behind a node with allowed states only, None if there is none."""
        if self.bar_met(node) is not None:
            return None
        if len(node) == len(self.sizes):
            return node
        for state in allowed[len(node)]:
            choice = self.first_right(allowed, (*node, state))
            if choice is not None:
                return choice
        return None

    def rule_out(self, allowed, node=()):
        """The position of a line whose bar is met by everything behind a node with allowed states only.

        No right choice may be there. The bar has no term at a later variable that lacks an allowed state.
        """
        j = self.bar_met(node)
        if j is not None:
            return self.place_of(("given", j), self.given[j])
        i = len(node)
        at = None
        for state in allowed[i]:
            # What the bar so far rules out needs no branch.
            if at is not None and state in term_at(self.bars[at], i):
                continue
            branch = self.rule_out(allowed, (*node, state))
            if at is not None and term_at(self.bars[branch], i) != ():
                branch = self.join_of(i, at, branch)
            at = branch
            if term_at(self.bars[at], i) == ():
                return at
        return at

    def join_of(self, i, a, b):
        return self.place_of(("join", i, a, b), joined_bar(self.sizes, i, self.bars[a], self.bars[b]))

    def place_of(self, line, bar):
        """The position of a line, which is appended if it is not there yet."""
        if line not in self.places:
            self.places[line] = len(self.lines)
            self.lines.append(line)
            self.bars.append(bar)
        return self.places[line]

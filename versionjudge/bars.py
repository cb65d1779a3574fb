"""Bars for sizes, what meets them, and their joins ([6.1], [6.2])."""

from versionjudge.values import is_ascending, is_integer, is_position, is_tuple, is_tuple_of


def are_sizes(thing):
    return is_tuple_of(thing, is_integer) and all([size >= 1 for size in thing])


def is_bar_of(sizes, thing):
    """Whether any value is a bar for sizes that are known to be right."""
    if not isinstance(thing, tuple) or not all([is_term(sizes, term) for term in thing]):
        return False
    return is_ascending([i for i, _ in thing])


def is_term(sizes, thing):
    if not is_tuple(thing, 2) or not is_position(thing[0], len(sizes)) or not isinstance(thing[1], tuple):
        return False
    i, few = thing
    if not all([is_position(state, sizes[i]) for state in few]):
        return False
    # Ascending states that are fewer than the size leave one out.
    return is_ascending(few) and 1 <= len(few) < sizes[i]


def term_at(bar, i):
    """The states of the term of a bar at a variable, () if it has none there."""
    for at, few in bar:
        if at == i:
            return few
    return ()


def is_met_by(bar, choice):
    """Whether a choice meets a bar."""
    return all([choice[i] in few for i, few in bar])


def does_bar_cover(bar, covered):
    """Whether each choice that meets the covered bar meets the bar for plain reasons, term by term ([6.3])."""
    terms = {i: few for i, few in covered}
    return all([i in terms and all([state in few for state in terms[i]]) for i, few in bar])


def joined_bar(sizes, i, one, other):
    """The join of two bars that both have a term at the variable i, None if there is none."""
    left = {at: few for at, few in one}
    right = {at: few for at, few in other}
    terms = []
    for at in sorted(set([*left, *right])):
        if at == i:
            few = tuple(sorted(set(left[at] + right[at])))
        else:
            few = common_states(left.get(at), right.get(at))
        if few == ():
            return None
        if len(few) < sizes[at]:
            terms.append((at, few))
    return tuple(terms)


def common_states(one, other):
    """The states in both of two terms at a variable, at least one of which is not None."""
    if one is None:
        return other
    if other is None:
        return one
    return tuple([state for state in one if state in other])

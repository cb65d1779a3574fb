"""Whether a state can be had, which wishes clash, and which names are sure (part 9)."""

from versionjudge.errors import BadNumber
from versionjudge.grounds import grounds_of
from versionjudge.problems import are_covering, bar_holds, is_right_for, judge_bar
from versionjudge.resolver import certificate_for, chosen_for, first_for, possible_for
from versionjudge.scenes import NONE
from versionjudge.values import is_ascending, is_integer, is_position, is_state_tuple, is_tuple, is_tuple_of


def judge_state(world, asks, i, s):
    problem = grounds_of(world, asks).problem
    return judge_bar(problem, bar_of_state(problem[0], i, s))


def state_holds(world, asks, i, s, thing):
    problem = grounds_of(world, asks).problem
    return bar_holds(problem, bar_of_state(problem[0], i, s), thing)


def check_state(sizes, i, s):
    """Make sure that two values are a variable and a state number of it."""
    if not is_position(i, len(sizes)):
        raise BadNumber(i)
    if not is_position(s, sizes[i]):
        raise BadNumber(s)


def bar_of_state(sizes, i, s):
    """The bar that is met by the choices with a state, which must be one."""
    check_state(sizes, i, s)
    if sizes[i] == 1:
        return ()
    return ((i, (s,)),)


def judge_clash(world, asks):
    grounds = grounds_of(world, asks)
    choice = first_for(grounds.problem)
    if choice is not None:
        return ("right", choice)
    positions = clashing(grounds)
    choices = [first_for(problem_with(grounds, others(positions, k))) for k in positions]
    return ("clash", positions, clash_lines(grounds, positions), tuple(choices))


def applying_positions(grounds):
    """The positions of the wishes that apply."""
    return [k for k, wish in enumerate(grounds.scene.wishes) if grounds.scene.applies(wish)]


def others(positions, k):
    return tuple([position for position in positions if position != k])


def clashing(grounds):
    """A clash, where there is no right choice."""
    positions = tuple(applying_positions(grounds))
    # Once a wish cannot be left out, it cannot be left out of fewer wishes either, so one pass is enough.
    for k in applying_positions(grounds):
        fewer = others(positions, k)
        if first_for(problem_with(grounds, fewer)) is None:
            positions = fewer
    return positions


def counting_bars(grounds, positions):
    """The positions of the given bars, without those of wishes that are not at these positions."""
    return [j for j, cause in enumerate(grounds.causes) if cause[0] != "wish" or cause[1] in positions]


def problem_with(grounds, positions):
    """The problem whose right choices are those that are fair to the wishes at these positions."""
    sizes, bars = grounds.problem
    return (sizes, tuple([bars[j] for j in counting_bars(grounds, positions)]))


def clash_lines(grounds, positions):
    """Lines of the whole problem that rule out all choices which are fair to the wishes at these positions."""
    counting = counting_bars(grounds, positions)
    _, lines = certificate_for(problem_with(grounds, positions))
    return tuple([("given", counting[line[1]]) if line[0] == "given" else line for line in lines])


def clash_holds(world, asks, thing):
    grounds = grounds_of(world, asks)
    if is_tuple(thing, 2):
        kind, choice = thing
        return kind == "right" and is_right_in(grounds.problem, choice)
    if not is_tuple(thing, 4) or thing[0] != "clash":
        return False
    _, positions, lines, choices = thing
    if not are_positions(applying_positions(grounds), positions):
        return False
    return are_clash_lines(grounds, positions, lines) and are_fair(grounds, positions, choices)


def is_right_in(problem, thing):
    """Whether any value is a right choice of a problem."""
    return is_state_tuple(problem[0], thing) and is_right_for(problem, thing)


def are_positions(applying, thing):
    """Whether any value is an ascending tuple of some of these positions."""
    return is_tuple_of(thing, lambda k: is_integer(k) and k in applying) and is_ascending(thing)


def are_clash_lines(grounds, positions, thing):
    """Whether any value is lines that rule out all choices which are fair to the wishes at these positions."""
    if not are_covering(grounds.problem, thing, ()):
        return False
    counting = counting_bars(grounds, positions)
    return all([line[1] in counting for line in thing if line[0] == "given"])


def are_fair(grounds, positions, thing):
    """Whether any value is a tuple with a choice for each position that is fair to the others."""
    if not is_tuple(thing, len(positions)):
        return False
    return all([is_right_in(problem_with(grounds, others(positions, k)), choice)
                for k, choice in zip(positions, thing)])


def sure(world, asks):
    rows = states_had(world, asks)
    return tuple(sorted([(name, had[0]) for name, had in rows if len(had) == 1]))


def names_in(world, asks):
    return tuple(sorted([name for name, had in states_had(world, asks) if NONE not in had]))


def names_out(world, asks):
    return tuple(sorted([name for name, had in states_had(world, asks) if had == [NONE]]))


def states_had(world, asks):
    """Each reached name with the states that it has in right choices, of which there must be some."""
    grounds = grounds_of(world, asks)
    chosen_for(grounds.problem)
    numbers = possible_for(grounds.problem)
    scene = grounds.scene
    return [(name, [scene.states[i][s] for s in numbers[i]]) for i, name in enumerate(scene.names)]

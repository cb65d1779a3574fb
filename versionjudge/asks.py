"""Asks, what they see of a world, and which choices are right (part 5)."""

from versionjudge.errors import BadAsks, BadChoice, BadNumber
from versionjudge.ranges import is_in
from versionjudge.scenes import NONE, ON, Scene
from versionjudge.stores import are_needs, check_world
from versionjudge.targets import is_target
from versionjudge.values import is_position, is_state_tuple, is_table, is_tuple, is_word
from versionjudge.versions import is_version


def is_asks(thing):
    if not is_tuple(thing, 4):
        return False
    wishes, target, kept, manner = thing
    return are_needs(wishes) and is_target(target) and is_table(kept, is_place) and is_manner(manner)


def is_place(thing):
    """Whether a value is a pair of a label and a version."""
    return is_tuple(thing, 2) and is_word(thing[0]) and is_version(thing[1])


def is_manner(thing):
    if not is_tuple(thing, 3):
        return False
    way, sight, early = thing
    return way in ("newest", "oldest") and sight in ("all", "first") and isinstance(early, bool)


def check_asks(asks):
    if not is_asks(asks):
        raise BadAsks(asks)


def scene_of(world, asks):
    """What follows from a world and asks, which must be right."""
    check_world(world)
    check_asks(asks)
    return Scene(world, asks)


def reached(world, asks):
    return scene_of(world, asks).names


def variables(world, asks):
    return scene_of(world, asks).variables


def states(world, asks, i):
    scene = scene_of(world, asks)
    if not is_position(i, len(scene.variables)):
        raise BadNumber(i)
    return scene.states[i]


def is_choice(world, asks, thing):
    return is_choice_in(scene_of(world, asks), thing)


def is_choice_in(scene, thing):
    return is_state_tuple([len(few) for few in scene.states], thing)


def is_right(world, asks, choice):
    scene = scene_of(world, asks)
    held = held_states(scene, choice)
    return (all([is_met(held, wish) for wish in scene.applying(scene.wishes)])
            and all([is_right_name(scene, held, name) for name in scene.names])
            and all([is_right_option(scene, held, name, option) for name, option in scene.variables if option != ""]))


def told(world, asks, choice):
    held = held_states(scene_of(world, asks), choice)
    chosen = [(name, state) for (name, option), state in held.items() if option == "" and state != NONE]
    # The options are in ascending order already, as they stand among the variables.
    switched = [variable for variable, state in held.items() if state == ON]
    return (tuple(sorted(chosen)), tuple(switched))


def held_states(scene, choice):
    """The state of each variable in a choice, which must be one."""
    if not is_choice_in(scene, choice):
        raise BadChoice(choice)
    return {variable: few[number] for variable, few, number in zip(scene.variables, scene.states, choice)}


def meets(state, span):
    """Whether the state of a package has a version that is in a range."""
    return state[0] in ("own", "for") and is_in(span, state[-1])


def is_met(held, need):
    """Whether a need, or wish, that applies is met."""
    name, span, options, _ = need
    return meets(held[(name, "")], span) and all([held[(name, option)] == ON for option in options])


def is_right_name(scene, held, name):
    """Whether everything that the state of a name asks for is there, and nothing that it bars."""
    state = held[(name, "")]
    if state[0] == "for":
        return held[(state[1], "")] == ("own", state[2], state[3])
    if state == NONE:
        return True
    release = scene.release_at(name, state)
    if not all([is_met(held, need) for need in scene.applying(release[1])]):
        return False
    return not any([meets(held[(other, "")], span) for other, span in release[2] if (other, "") in held])


def is_right_option(scene, held, name, option):
    """Whether an option is off, or its name has a release with it, and what this needs is there."""
    if held[(name, option)] != ON:
        return True
    needs = scene.extra_at(name, held[(name, "")], option)
    return needs is not None and all([is_met(held, need) for need in scene.applying(needs)])

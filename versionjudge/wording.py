"""Texts of variables, states and bars ([10.1])."""

from versionjudge.versions import version_text


def text_of_variable(variable):
    name, option = variable
    return name if option == "" else f"{name}[{option}]"


def text_of_state(state):
    kind = state[0]
    if kind == "own":
        return f"{state[1]} {version_text(state[2])}"
    if kind == "for":
        return f"{state[1]} {state[2]} {version_text(state[3])} as {version_text(state[4])}"
    # What is left is a word by itself.
    return kind


def text_of_term(scene, i, few):
    states = scene.states[i]
    if 2 * len(few) > len(states):
        sign = "is not"
        numbers = [s for s in range(len(states)) if s not in few]
    else:
        sign = "is"
        numbers = list(few)
    listed = " or ".join([text_of_state(states[s]) for s in numbers])
    return f"{text_of_variable(scene.variables[i])} {sign} {listed}"


def text_of_bar(scene, bar):
    if bar == ():
        return "anything"
    return ", ".join([text_of_term(scene, i, few) for i, few in bar])

"""Lines in words, read back, and shortened (part 10)."""

from versionjudge.errors import BadNumber, BadStory
from versionjudge.grounds import grounds_of
from versionjudge.problems import check_bar, check_problem, checked_bars
from versionjudge.proofs import bar_of_line
from versionjudge.questions import check_state
from versionjudge.ranges import range_text
from versionjudge.reading import DIGITS
from versionjudge.stores import need_text
from versionjudge.values import is_position, is_tuple_of
from versionjudge.wording import text_of_bar, text_of_state, text_of_variable

# No number in a story is as long.
MOST_DIGITS = 9


def variable_text(world, asks, i):
    scene = grounds_of(world, asks).scene
    if not is_position(i, len(scene.variables)):
        raise BadNumber(i)
    return text_of_variable(scene.variables[i])


def state_text(world, asks, i, s):
    grounds = grounds_of(world, asks)
    check_state(grounds.problem[0], i, s)
    return text_of_state(grounds.scene.states[i][s])


def bar_text(world, asks, bar):
    grounds = grounds_of(world, asks)
    check_bar(grounds.problem, bar)
    return text_of_bar(grounds.scene, bar)


def story(world, asks, lines):
    grounds = grounds_of(world, asks)
    bars = checked_bars(grounds.problem, lines)
    return tuple([row_of(grounds, at, line, bar) for at, (line, bar) in enumerate(zip(lines, bars))])


def row_of(grounds, at, line, bar):
    """What a story says of a line at a position, and of its bar."""
    if line[0] == "given":
        origin = f"given {line[1] + 1}, {reason_of(grounds.scene, grounds.causes[line[1]])}"
    else:
        _, i, a, b = line
        origin = f"from {a + 1} and {b + 1} at {text_of_variable(grounds.scene.variables[i])}"
    return f"{at + 1}: {origin}: never {text_of_bar(grounds.scene, bar)}"


def reason_of(scene, cause):
    """What a story says of the cause of a given bar."""
    kind, i = cause[:2]
    if kind == "wish":
        return f"wish {i + 1} {need_text(scene.wishes[i])}"
    name, option = scene.variables[i]
    if kind == "option":
        return f"{text_of_variable((name, option))} is not everywhere"
    at = scene.places[(name, "")]
    state = scene.states[at][cause[2]]
    if kind == "extra":
        need = scene.extra_at(name, state, option)[cause[3]]
        return f"{text_of_variable((name, option))} at {text_of_state(state)} needs {need_text(need)}"
    if kind == "stand":
        return f"{name} {text_of_state(state)} stands on {state[1]}"
    release = scene.release_at(name, state)
    if kind == "need":
        return f"{name} {text_of_state(state)} needs {need_text(release[1][cause[3]])}"
    other, span = release[2][cause[3]]
    return f"{name} {text_of_state(state)} bars {other} {range_text(span)}"


def read_story(world, asks, thing):
    grounds = grounds_of(world, asks)
    return lines_told(grounds, thing)[0]


def lines_told(grounds, thing):
    """The lines whose story any value must be, and their bars."""
    if not is_tuple_of(thing, lambda row: isinstance(row, str)):
        raise BadStory(-1)
    places = {text_of_variable(variable): i for i, variable in enumerate(grounds.scene.variables)}
    lines = []
    bars = []
    for at, row in enumerate(thing):
        line = line_hinted(places, row)
        bar = bar_of_line(grounds.problem, bars, line)
        # The first words of a row decide which line it tells; so the rest must be what that line has.
        if bar is None or row_of(grounds, at, line, bar) != row:
            raise BadStory(at)
        lines.append(line)
        bars.append(bar)
    return (tuple(lines), tuple(bars))


def line_hinted(places, row):
    """The only line that a row of a story can tell, by its first words; None if there is none."""
    words = row.split(" ")
    if len(words) > 2 and words[1] == "given":
        return ("given", position_hinted(words[2][:-1]))
    if len(words) > 6 and words[1] == "from":
        return ("join", places.get(words[6][:-1]), position_hinted(words[2]), position_hinted(words[4]))
    return None


def position_hinted(word):
    """The position that a word, counting from 1, may stand for; None if it is no number."""
    if not 1 <= len(word) <= MOST_DIGITS or not all([digit in DIGITS for digit in word]):
        return None
    return int(word) - 1


def tells_none(world, asks, thing):
    grounds = grounds_of(world, asks)
    try:
        bars = lines_told(grounds, thing)[1]
    except BadStory:
        return False
    return bars != () and bars[-1] == ()


def shortened(problem, lines, ends):
    check_problem(problem)
    checked_bars(problem, lines)
    if not is_tuple_of(ends, lambda end: end is None or is_position(end, len(lines))):
        raise BadNumber(ends)
    places = {}
    renumbered = {}
    for at in needed_lines(lines, ends):
        line = lines[at]
        if line[0] == "join":
            line = ("join", line[1], renumbered[line[2]], renumbered[line[3]])
        # A dict keeps its order, so its keys are the lines that are left.
        renumbered[at] = places.setdefault(line, len(places))
    return (tuple(places), tuple([None if end is None else renumbered[end] for end in ends]))


def needed_lines(lines, ends):
    """The positions of the lines on which some end depends, ascending."""
    needed = {end: True for end in ends if end is not None}
    for at in reversed(range(len(lines))):
        if at in needed and lines[at][0] == "join":
            needed[lines[at][2]] = True
            needed[lines[at][3]] = True
    return sorted(needed)


def depth_of(problem, lines):
    check_problem(problem)
    checked_bars(problem, lines)
    depths = []
    for line in lines:
        if line[0] == "given":
            depths.append(0)
        else:
            depths.append(1 + max(depths[line[2]], depths[line[3]]))
    return max(depths, default=0)

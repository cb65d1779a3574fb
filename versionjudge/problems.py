"""Problems, bars, lines that rule choices out, and certificates about a bar (part 6)."""

from versionjudge.bars import are_sizes, does_bar_cover, is_bar_of, is_met_by, joined_bar, term_at
from versionjudge.errors import BadBar, BadChoice, BadLines, BadNumber, BadProblem
from versionjudge.proofs import Prover, bars_along
from versionjudge.values import is_position, is_state_tuple, is_tuple


def is_problem(thing):
    if not is_tuple(thing, 2) or not are_sizes(thing[0]) or not isinstance(thing[1], tuple):
        return False
    sizes, bars = thing
    return all([is_bar_of(sizes, bar) for bar in bars])


def check_problem(problem):
    if not is_problem(problem):
        raise BadProblem(problem)


def is_bar(sizes, thing):
    if not are_sizes(sizes):
        raise BadProblem(sizes)
    return is_bar_of(sizes, thing)


def check_bar(problem, bar):
    if not is_bar_of(problem[0], bar):
        raise BadBar(bar)


def is_choice_of(problem, thing):
    check_problem(problem)
    return is_state_tuple(problem[0], thing)


def check_choice(problem, choice):
    if not is_state_tuple(problem[0], choice):
        raise BadChoice(choice)


def does_meet(problem, choice, bar):
    check_problem(problem)
    check_choice(problem, choice)
    check_bar(problem, bar)
    return is_met_by(bar, choice)


def is_right_choice(problem, choice):
    check_problem(problem)
    check_choice(problem, choice)
    return is_right_for(problem, choice)


def is_right_for(problem, choice):
    """Whether a choice meets none of the given bars, both known to be right in kind."""
    return not any([is_met_by(bar, choice) for bar in problem[1]])


def join(problem, i, one, other):
    check_problem(problem)
    if not is_position(i, len(problem[0])):
        raise BadNumber(i)
    for bar in (one, other):
        check_bar(problem, bar)
        if term_at(bar, i) == ():
            raise BadBar(bar)
    return joined_bar(problem[0], i, one, other)


def are_lines(problem, thing):
    check_problem(problem)
    return bars_along(problem, thing) is not None


def bars_of(problem, lines):
    check_problem(problem)
    return checked_bars(problem, lines)


def checked_bars(problem, lines):
    """The bars of lines, which must be lines of the problem."""
    bars = bars_along(problem, lines)
    if bars is None:
        raise BadLines(lines)
    return bars


def do_cover(problem, lines, bar):
    check_problem(problem)
    bars = checked_bars(problem, lines)
    check_bar(problem, bar)
    return do_bars_cover(bars, bar)


def do_bars_cover(bars, bar):
    """Whether lines with these bars cover a bar."""
    return bars != () and does_bar_cover(bars[-1], bar)


def are_covering(problem, thing, bar):
    """Whether any value is lines that cover a bar."""
    bars = bars_along(problem, thing)
    return bars is not None and do_bars_cover(bars, bar)


def judge_bar(problem, bar):
    check_problem(problem)
    check_bar(problem, bar)
    prover = Prover(problem)
    allowed = allowed_by(problem[0], bar)
    choice = prover.first_right(allowed)
    if choice is not None:
        return ("choice", choice)
    at = prover.rule_out(allowed)
    return ("lines", tuple(prover.lines[:at + 1]))


def allowed_by(sizes, bar):
    """The states of each variable with which a choice meets a bar."""
    terms = {i: few for i, few in bar}
    return tuple([terms.get(i, tuple(range(size))) for i, size in enumerate(sizes)])


def bar_holds(problem, bar, thing):
    check_problem(problem)
    check_bar(problem, bar)
    if not is_tuple(thing, 2):
        return False
    kind, told = thing
    if kind == "choice":
        return is_state_tuple(problem[0], told) and is_right_for(problem, told) and is_met_by(bar, told)
    return kind == "lines" and are_covering(problem, told, bar)

"""The first right choice of a problem, and lines that rule out all that comes before it (part 7)."""

from versionjudge.bars import does_bar_cover
from versionjudge.errors import NoChoice
from versionjudge.problems import allowed_by, are_covering, check_problem, is_right_for
from versionjudge.proofs import Prover, bars_along
from versionjudge.values import is_position, is_state_tuple, is_tuple


def resolve(problem):
    check_problem(problem)
    return certificate_for(problem)


def certificate_for(problem):
    """A certificate for a problem that is known to be right."""
    sizes = problem[0]
    prover = Prover(problem)
    allowed = allowed_by(sizes, ())
    choice = prover.first_right(allowed)
    if choice is None:
        at = prover.rule_out(allowed)
        return ("none", tuple(prover.lines[:at + 1]))
    ends = []
    for i, state in enumerate(choice):
        end = None
        if state > 0:
            end = prover.rule_out(allowed_by(sizes, bar_before(sizes, choice, i)))
        ends.append(end)
    return ("choice", choice, tuple(prover.lines), tuple(ends))


def bar_before(sizes, choice, i):
    """The bar met by the choices that first differ from a choice at the variable i, and have a lesser state there."""
    same = [(k, (choice[k],)) for k in range(i) if sizes[k] > 1]
    return (*same, (i, tuple(range(choice[i]))))


def resolve_holds(problem, thing):
    check_problem(problem)
    return is_certificate_for(problem, thing)


def is_certificate_for(problem, thing):
    """Whether any value is a certificate for a problem that is known to be right."""
    if is_tuple(thing, 2):
        return thing[0] == "none" and are_covering(problem, thing[1], ())
    if not is_tuple(thing, 4) or thing[0] != "choice":
        return False
    _, choice, lines, ends = thing
    if not is_state_tuple(problem[0], choice) or not is_right_for(problem, choice):
        return False
    bars = bars_along(problem, lines)
    if bars is None or not is_tuple(ends, len(choice)):
        return False
    return all([is_end(problem[0], choice, bars, i, end) for i, end in enumerate(ends)])


def is_end(sizes, choice, bars, i, end):
    """Whether lines with these bars rule out, up to an end, what a choice has before it at the variable i."""
    if choice[i] == 0:
        return end is None
    return is_position(end, len(bars)) and does_bar_cover(bars[end], bar_before(sizes, choice, i))


def first_choice(problem):
    check_problem(problem)
    return first_for(problem)


def first_for(problem):
    """The first right choice of a problem that is known to be right, None if there is none."""
    return Prover(problem).first_right(allowed_by(problem[0], ()))


def chosen_for(problem):
    """The first right choice of a problem that is known to be right; if there is none, the error tells why."""
    choice = first_for(problem)
    if choice is None:
        raise NoChoice(certificate_for(problem))
    return choice


def plain_first(problem):
    check_problem(problem)
    for choice in all_choices(problem[0]):
        if is_right_for(problem, choice):
            return choice
    return None


def possible(problem):
    check_problem(problem)
    return possible_for(problem)


def possible_for(problem):
    """The states of each variable in the right choices of a problem that is known to be right."""
    rights = [choice for choice in all_choices(problem[0]) if is_right_for(problem, choice)]
    return tuple([tuple(sorted({right[i] for right in rights})) for i in range(len(problem[0]))])


def all_choices(sizes):
    """All choices, in order."""
    choices = [()]
    for size in sizes:
        choices = [(*choice, state) for choice in choices for state in range(size)]
    return choices

"""Judges of the tests' own: whether any value is a certificate, from the words of the document alone."""

from tests.test_problems import met, plain_bars, plain_cover, right_choices


def is_whole(thing, many):
    """Whether a value is an integer, and no bool, from 0 to below a number."""
    return type(thing) is int and 0 <= thing < many


def is_plain_line(thing):
    if type(thing) is not tuple or not thing or type(thing[0]) is not str:
        return False
    return (thing[0], len(thing)) in (("given", 2), ("join", 4)) and all(type(part) is int for part in thing[1:])


def lines_bars(problem, thing):
    """The bars of any value that is lines, None for others."""
    if type(thing) is not tuple or not all(is_plain_line(line) for line in thing):
        return None
    if not all(line[0] == "given" or line[1] in range(len(problem[0])) for line in thing):
        return None
    return plain_bars(problem, thing)


def is_right_thing(problem, thing):
    """Whether any value is a right choice."""
    sizes = problem[0]
    if type(thing) is not tuple or len(thing) != len(sizes):
        return False
    if not all(is_whole(state, size) for state, size in zip(thing, sizes)):
        return False
    return not any(met(thing, bar) for bar in problem[1])


def rules_all_out(problem, thing):
    bars = lines_bars(problem, thing)
    return bool(bars) and bars[-1] == ()


def is_first_certificate(problem, thing):
    """What [7.2] says."""
    if type(thing) is not tuple or not thing or type(thing[0]) is not str:
        return False
    if thing[0] == "none" and len(thing) == 2:
        return rules_all_out(problem, thing[1])
    if thing[0] != "choice" or len(thing) != 4:
        return False
    _, choice, lines, ends = thing
    bars = lines_bars(problem, lines)
    if not is_right_thing(problem, choice) or bars is None or type(ends) is not tuple or len(ends) != len(choice):
        return False
    for i, end in enumerate(ends):
        before = tuple((k, (choice[k],)) for k in range(i) if problem[0][k] > 1) + ((i, tuple(range(choice[i]))),)
        if choice[i] == 0 and end is not None:
            return False
        if choice[i] > 0 and not (is_whole(end, len(bars)) and plain_cover(bars[:end + 1], before)):
            return False
    return True


def is_bar_certificate(problem, bar, thing):
    """What [6.4] says."""
    if type(thing) is not tuple or len(thing) != 2 or type(thing[0]) is not str:
        return False
    if thing[0] == "choice":
        return is_right_thing(problem, thing[1]) and met(thing[1], bar)
    bars = lines_bars(problem, thing[1]) if thing[0] == "lines" else None
    return bars is not None and plain_cover(bars, bar)


def agrees_with_all_choices(problem, certificate):
    """Whether a certificate of [7.2] is right, of the kind that all choices tell, and short enough."""
    rights = right_choices(problem)
    product = 1
    for size in problem[0]:
        product *= size
    lines = certificate[1] if certificate[0] == "none" else certificate[2]
    if len(lines) > len(problem[1]) + product or not is_first_certificate(problem, certificate):
        return False
    return certificate[1] == rights[0] if rights else certificate[0] == "none"


def is_fair(demands, positions, choice):
    """Whether a choice is fair to the wishes at these positions ([9.2])."""
    return not any(met(choice, bar) and not (cause[0] == "wish" and cause[1] not in positions)
                   for cause, bar in demands.found)


def is_clash_certificate(demands, applying, thing):
    """What [9.2] says, for plain demands and the positions of the wishes that apply."""
    problem = demands.problem
    if type(thing) is not tuple or not thing or type(thing[0]) is not str:
        return False
    if thing[0] == "right" and len(thing) == 2:
        return is_right_thing(problem, thing[1])
    if thing[0] != "clash" or len(thing) != 4:
        return False
    _, positions, lines, choices = thing
    if type(positions) is not tuple or not all(type(k) is int and k in applying for k in positions):
        return False
    if list(positions) != sorted(set(positions)) or not rules_all_out(problem, lines):
        return False
    given = [demands.causes[line[1]] for line in lines if line[0] == "given"]
    if any(cause[0] == "wish" and cause[1] not in positions for cause in given):
        return False
    if type(choices) is not tuple or len(choices) != len(positions):
        return False
    free = (problem[0], ())
    return all(is_right_thing(free, choice) and is_fair(demands, [other for other in positions if other != k], choice)
               for k, choice in zip(positions, choices))

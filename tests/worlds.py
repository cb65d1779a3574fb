"""Worlds and asks for the tests, by hand and by a chance with a fixed seed."""

from tests.test_targets import PAIRS, some_condition

FIRST, ONE, TWO, THREE = (0, 0, 0, 0, 0), (1, 0, 0, 3, 0), (2, 0, 0, 3, 0), (3, 0, 0, 3, 0)
BETA, RC = (2, 0, 0, 1, 4), (3, 0, 0, 2, 1)
ALL, ALWAYS, NEVER = ((FIRST, None),), ("always",), ("not", ("always",))
LINUX = ("is", "os", "linux")


def need(name, span=ALL, options=(), condition=ALWAYS):
    return (name, span, options, condition)


def release(version, needs=(), bars=(), extras=(), stands=(), withdrawn=False):
    return (version, needs, bars, extras, stands, withdrawn)


def asks_for(*wishes, target=(), kept=(), way="newest", sight="all", early=False):
    return (wishes, target, kept, (way, sight, early))


# Every kind of line occurs in it, and each part of it is there more than once somewhere, and empty elsewhere.
RICH = (
    ("main", (
        ("app", (
            release(ONE, needs=(need("core", ((ONE, TWO),)), need("core", ((ONE, TWO),)), need("base"))),
            release(TWO, needs=(need("core", ((TWO, None),), ("fast", "safe"), LINUX), need("base", (), ("fast",))),
                    bars=(("core", ((ONE, TWO), (THREE, None))), ("tool", ALL)),
                    extras=(("color", ()), ("log", (need("tool"), need("base", ALL, (), NEVER)))),
                    stands=(("base", ONE), ("base", TWO), ("tool", RC)), withdrawn=True),
        )),
        ("core", (release(ONE), release(BETA, bars=(("core", ()),)), release(TWO, stands=(("core", THREE),)),
                  release(RC, extras=(("fast", (need("app"),)),)))),
    )),
    ("empty", ()),
    ("side", (
        ("core", (release(ONE, withdrawn=True), release(THREE, stands=(("base", THREE), ("tool", ONE))))),
        ("tool", (release(FIRST), release((0, 0, 0, 3, 0)))),
    )),
)

NAMES = ["app", "base", "core", "tool"]
OPTIONS = ["fast", "safe"]
VERSIONS = [ONE, BETA, TWO, RC, THREE]
SPANS = [ALL, ALL, ((ONE, TWO),), ((TWO, None),), ((FIRST, TWO),), (), ((ONE, BETA), (TWO, None))]


def part_of(chance, things, most):
    """A few of the things, in their order."""
    taken = chance.sample(range(len(things)), min(len(things), chance.randint(0, most)))
    return [things[at] for at in sorted(taken)]


def some_need(chance):
    condition = ALWAYS if chance.random() < 0.6 else some_condition(chance, 2)
    options = part_of(chance, OPTIONS, 2) if chance.random() < 0.3 else []
    return need(chance.choice(NAMES), chance.choice(SPANS), tuple(options), condition)


def some_needs(chance, most):
    return tuple(some_need(chance) for _ in range(chance.randint(0, most)))


def some_release(chance, version):
    bars = [(name, chance.choice(SPANS[2:])) for name in part_of(chance, NAMES, 1)]
    extras = [(option, some_needs(chance, 1)) for option in part_of(chance, OPTIONS, 2)]
    stands = sorted({(chance.choice(NAMES), chance.choice(VERSIONS)) for _ in range(chance.choice([0, 0, 1, 2]))})
    return release(version, some_needs(chance, 2), tuple(bars), tuple(extras), tuple(stands), chance.random() < 0.2)


def some_shelves(chance):
    return tuple((name, tuple(some_release(chance, version) for version in part_of(chance, VERSIONS, 3) or [ONE]))
                 for name in part_of(chance, NAMES, 4))


def some_world(chance):
    labels = chance.sample(["main", "side", "far", "old"], chance.randint(1, 3))
    return tuple((label, some_shelves(chance)) for label in labels)


def some_asks(chance, world):
    wishes = tuple(some_need(chance) for _ in range(chance.randint(0, 3)))
    target = tuple((key, value) for key, value in part_of(chance, PAIRS, 1))
    places = [(name, (label, one[0])) for label, shelves in world for name, releases in shelves for one in releases]
    kept = {name: (chance.choice(["main", "nowhere"]), chance.choice(VERSIONS)) for name in part_of(chance, NAMES, 2)}
    kept.update(part_of(chance, places, 2))
    return asks_for(*wishes, target=target, kept=tuple(sorted(kept.items())), way=chance.choice(["newest", "oldest"]),
                    sight=chance.choice(["all", "first"]), early=chance.random() < 0.5)

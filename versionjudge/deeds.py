"""What deeds make of what a desk keeps: a world, asks, and a lock or None ([14.1] to [14.3])."""

from versionjudge.asks import is_manner
from versionjudge.demands import chosen
from versionjudge.errors import BadDeed
from versionjudge.locks import lock_of, with_kept
from versionjudge.stores import is_need, is_release
from versionjudge.targets import is_target
from versionjudge.values import is_position, is_tuple, is_word
from versionjudge.versions import is_version


def kept_after(kept, deed):
    """What a desk that keeps something keeps after a deed, which must be one that is possible."""
    world, asks, lock = kept
    if is_tuple(deed, 1) and deed[0] == "install":
        return (world, asks, lock_now(kept))
    if is_tuple(deed, 2):
        asks = asks_after(asks, *deed)
    elif is_tuple(deed, 4):
        world = world_after(world, *deed)
    else:
        raise BadDeed(deed)
    if world is None or asks is None:
        raise BadDeed(deed)
    return (world, asks, lock)


def asks_kept(kept):
    """The asks with the lock kept, if there is one."""
    _, asks, lock = kept
    return asks if lock is None else with_kept(asks, lock)


def lock_now(kept):
    """The lock of the first right choice for the asks now."""
    world = kept[0]
    asks = asks_kept(kept)
    return lock_of(world, asks, chosen(world, asks))


def asks_after(asks, kind, part):
    """The asks after a deed upon them, None if it is none, or not possible."""
    wishes, target, places, manner = asks
    if kind == "wish" and is_need(part):
        return ((*wishes, part), target, places, manner)
    if kind == "unwish" and is_position(part, len(wishes)):
        return (wishes[:part] + wishes[part + 1:], target, places, manner)
    if kind == "target" and is_target(part):
        return (wishes, part, places, manner)
    if kind == "manner" and is_manner(part):
        return (wishes, target, places, part)
    return None


def world_after(world, kind, label, name, part):
    """The world after a deed upon it, None if it is none, or not possible."""
    if label not in [other for other, _ in world] or not is_word(name):
        return None
    releases = releases_on(world, label, name)
    if kind == "put" and is_release(part):
        after = releases_with(releases, part)
    elif kind == "withdraw" and is_version(part):
        after = releases_without(releases, part)
    else:
        return None
    return None if after is None else world_with(world, label, name, after)


def releases_on(world, label, name):
    """The releases on the shelf of a name in a store, () if there is no such shelf."""
    for other, shelves in world:
        for owner, releases in shelves:
            if other == label and owner == name:
                return releases
    return ()


def releases_with(releases, more):
    """Releases and one more, None if its version is there."""
    if more[0] in [release[0] for release in releases]:
        return None
    return tuple(sorted([*releases, more], key=lambda release: release[0]))


def releases_without(releases, version):
    """Releases of which the one with a version is withdrawn now, None if it was before, or is not there."""
    if version not in [release[0] for release in releases if not release[5]]:
        return None
    return tuple([(*release[:5], True) if release[0] == version else release for release in releases])


def world_with(world, label, name, releases):
    """The world with these releases on the shelf of a name in a store."""
    return tuple([(other, shelves_with(shelves, name, releases) if other == label else shelves)
                  for other, shelves in world])


def shelves_with(shelves, name, releases):
    others = [shelf for shelf in shelves if shelf[0] != name]
    return tuple(sorted([*others, (name, releases)], key=lambda shelf: shelf[0]))

"""Desks, which keep a world, asks and what is installed, with undo (part 14)."""

from versionjudge.asks import check_asks
from versionjudge.deeds import asks_kept, kept_after
from versionjudge.demands import problem_of
from versionjudge.errors import BadAsks, NothingToRedo, NothingToUndo
from versionjudge.locks import judge_lock, lock_from, lock_text, read_target_line, target_line
from versionjudge.reading import LineReader
from versionjudge.resolver import certificate_for
from versionjudge.stores import check_world, need_from, need_text, rows_from, world_from, world_text

# The words of a text for each part of a manner.
WAYS = ("newest", "oldest")
SIGHTS = ("all", "first")
EARLY = "early"
WHOLE = "whole"


class Desk:
    """A world, asks and what is installed, and what these were before each deed."""

    def __init__(self, world, asks):
        check_world(world)
        check_asks(asks)
        if asks[2] != ():
            raise BadAsks(asks)
        self.kept = (world, asks, None)
        self.before = []
        self.undone = []

    def __eq__(self, other):
        return isinstance(other, Desk) and self.text() == other.text()

    def world(self):
        return self.kept[0]

    def asks(self):
        return self.kept[1]

    def asks_now(self):
        return asks_kept(self.kept)

    def installed(self):
        return self.kept[2]

    def answer(self):
        return certificate_for(problem_of(self.world(), self.asks_now()))

    def state_of_lock(self):
        if self.installed() is None:
            return None
        return judge_lock(self.world(), self.asks_now(), self.installed())

    def do(self, deed):
        after = kept_after(self.kept, deed)
        self.before.append(self.kept)
        self.undone = []
        self.kept = after

    def undo(self):
        if self.before == []:
            raise NothingToUndo()
        self.undone.append(self.kept)
        self.kept = self.before.pop()

    def redo(self):
        if self.undone == []:
            raise NothingToRedo()
        self.before.append(self.kept)
        self.kept = self.undone.pop()

    def copied(self):
        twin = Desk(self.world(), self.asks())
        twin.kept = self.kept
        twin.before = list(self.before)
        twin.undone = list(self.undone)
        return twin

    def text(self):
        world, asks, lock = self.kept
        wishes, target, _, manner = asks
        lines = [world_text(world), *[f"wish {need_text(wish)}" for wish in wishes], target_line("for", target)]
        lines.append(f"manner {manner_text(manner)}")
        if lock is not None:
            lines.extend(["installed", lock_text(lock)])
        return "\n".join(lines)


def manner_text(manner):
    way, sight, early = manner
    return f"{way} {sight} {EARLY if early else WHOLE}"


def read_desk(text):
    lines = LineReader(text)
    world = world_from(lines)
    wishes = rows_from(lines, "wish ", need_from)
    target = read_target_line(lines, "for")
    lines.expect("manner ")
    manner = lines.read("manner ", manner_from)
    lock = None
    if lines.begins("installed"):
        lines.read("installed", lambda reader: True)
        lock = lock_from(lines)
    lines.finish()
    desk = Desk(world, (wishes, target, (), manner))
    desk.kept = (world, desk.asks(), lock)
    return desk


def manner_from(reader):
    way = reader.take_first(WAYS)
    reader.expect(" ")
    sight = reader.take_first(SIGHTS)
    reader.expect(" ")
    return (way, sight, reader.take_first((EARLY, WHOLE)) == EARLY)

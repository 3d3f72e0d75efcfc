"""The desk: a gated net and a standing in which nobody is stuck, and the edits that change them."""

from singlegates.bounds import MAX_EDITS
from singlegates.changes import let_in, line_shut, refuse, rewayed, track_taken
from singlegates.errors import (
    BadNet, BadStanding, NothingToRedo, NothingToUndo, NoVersion, Stuck, TooManyEdits, Unfit,
)
from singlegates.gates import require_gated, ungated
from singlegates.kinds import is_within
from singlegates.lots import brought, greatest_lot
from singlegates.moving import moved
from singlegates.nets import net_error, wider
from singlegates.standings import standing_error

# The words of the edits, and how many items these have.
EDITS = (("move", 3), ("in", 2), ("way", 3), ("shut", 3), ("take", 2), ("lay", 2))


class Desk:
    """A gated net and a standing for it without a lot, with a log of the edits that are in force."""

    def __init__(self, net, standing):
        _require_fit(net, standing)
        self._log = []
        # The pairs of net and standing as they were ahead of the first edit, and behind each one.
        self._versions = [(net, standing)]
        # The edits that were undone, and the pairs behind them, the one undone last at the end.
        self._undone = []

    def __eq__(self, other):
        if not isinstance(other, Desk):
            return False
        return self._versions[-1] == other._versions[-1]

    def net(self):
        """Return the present net."""
        return self._versions[-1][0]

    def standing(self):
        """Return the present standing."""
        return self._versions[-1][1]

    def version(self):
        """Return how many edits are in force."""
        return len(self._log)

    def log(self):
        """Return the edits that are in force."""
        return tuple(self._log)

    def make(self, edit):
        """Change net and standing as edit tells."""
        if not _is_edit(edit):
            raise Unfit()
        if self.version() >= MAX_EDITS:
            raise TooManyEdits(MAX_EDITS)
        behind = _edited(self.net(), self.standing(), edit)
        self._log.append(edit)
        self._versions.append(behind)
        self._undone = []

    def undo(self):
        """Take the last edit back."""
        if self._log == []:
            raise NothingToUndo()
        self._undone.append((self._log.pop(), self._versions.pop()))

    def redo(self):
        """Make the edit again that was undone last."""
        if self._undone == []:
            raise NothingToRedo()
        edit, behind = self._undone.pop()
        self._log.append(edit)
        self._versions.append(behind)

    def at(self, version):
        """Return the pair of net and standing behind so many edits."""
        if not is_within(version, 0, self.version()):
            raise NoVersion(version)
        return self._versions[version]

    def copy(self):
        """Return a desk that is like this one, and goes its own way."""
        other = Desk(self.net(), self.standing())
        other._log = list(self._log)
        other._versions = list(self._versions)
        other._undone = list(self._undone)
        return other


def desk_behind(net, standing, log):
    """Return the desk of net and standing behind the edits of log."""
    desk = Desk(net, standing)
    if not isinstance(log, tuple) or len(log) > MAX_EDITS:
        raise Unfit()
    for edit in log:
        desk.make(edit)
    return desk


def _require_fit(net, standing):
    """Raise the first error that applies if there is no desk of net and standing."""
    error = net_error(net)
    if error is not None:
        raise BadNet(error)
    stations = ungated(net)
    if stations != ():
        raise BadNet(("gates", stations))
    error = standing_error(net, standing)
    if error is not None:
        raise BadStanding(error)
    lot = greatest_lot(net, standing)
    if lot != ():
        raise Stuck(lot)


def _is_edit(value):
    """Return whether value is an edit."""
    return isinstance(value, tuple) and value != () and (value[0], len(value)) in EDITS


def _edited(net, standing, edit):
    """Return net and standing behind edit."""
    word = edit[0]
    if word == "move":
        return _with_move(net, standing, edit[1:])
    if word == "in":
        return (net, let_in(net, standing, edit[1]))
    if word == "way":
        return (net, rewayed(net, standing, edit[1], edit[2]))
    if word == "shut":
        return line_shut(net, standing, edit[1], edit[2])
    if word == "take":
        return _with_track_taken(net, standing, edit[1])
    return _with_track_laid(net, standing, edit[1])


def _with_move(net, standing, move):
    refuse(brought(net, standing, move))
    return (net, moved(net, standing, move))


def _with_track_taken(net, standing, station):
    left = track_taken(net, standing, station)
    require_gated(left)
    return (left, standing)


def _with_track_laid(net, standing, station):
    if not is_within(station, 0, len(net[0]) - 1):
        raise Unfit()
    return (wider(net, station), standing)

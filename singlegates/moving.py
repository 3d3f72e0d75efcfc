"""Moves, and runs of moves one behind another."""

from singlegates.bounds import MAX_MOVES
from singlegates.errors import BadMove, BadRun
from singlegates.kinds import is_integer, is_pair, is_within
from singlegates.standings import free_tracks, wants, without
from singlegates.ways import choice


def move_error(net, standing, value):
    """Return None if value is a move that can be made, otherwise the first error that applies."""
    if not is_pair(value):
        return "form"
    train, target = value
    if not is_within(train, 0, len(standing) - 1) or not (target is None or is_integer(target)):
        return "form"
    if standing[train] is None:
        return "gone"
    wanted = wants(standing, train)
    if target is None:
        return None if wanted == () else "way"
    if target not in wanted:
        return "way"
    return None if free_tracks(net, standing, target) > 0 else "full"


def moved(net, standing, move):
    """Return the standing behind move."""
    error = move_error(net, standing, move)
    if error is not None:
        raise BadMove(error)
    return _behind(standing, move)


def moves(net, standing):
    """Return all moves that can be made, by trains and then by stations."""
    is_open = [free_tracks(net, standing, station) > 0 for station in range(len(net[0]))]
    found = []
    for train, way in enumerate(standing):
        if way is not None and way[1] == ():
            found.append((train, None))
        found.extend([(train, target) for target in wants(standing, train) if is_open[target]])
    return tuple(found)


def run_error(net, standing, value):
    """Return None if value is a run from standing, otherwise the first error that applies."""
    error, _ = _led(net, standing, value)
    return error


def led(net, standing, run):
    """Return the standing behind run."""
    error, behind = _led(net, standing, run)
    if error is not None:
        raise BadRun(error)
    return behind


def _led(net, standing, value):
    """Return what run_error tells of value, and the standing behind the moves of it that can be made."""
    if not isinstance(value, tuple) or len(value) > MAX_MOVES:
        return "form", standing
    for spot, move in enumerate(value):
        error = move_error(net, standing, move)
        if error is not None:
            return (spot, error), standing
        standing = _behind(standing, move)
    return None, standing


def _behind(standing, move):
    """Return the standing behind a move that can be made."""
    train, target = move
    if target is None:
        return without(standing, (train,))
    return standing[:train] + (choice(standing[train], target),) + standing[train + 1:]

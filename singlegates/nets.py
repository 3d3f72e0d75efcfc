"""Nets: stations with tracks, and lines that lead from station to station."""

from singlegates.bounds import MAX_STATIONS, MAX_TRACKS
from singlegates.errors import Unfit
from singlegates.kinds import is_pair, is_within


def net_error(value):
    """Return None if value is a net, otherwise the first error that applies."""
    if not _is_built(value):
        return "form"
    tracks, lines = value
    for station, many in enumerate(tracks):
        if not is_within(many, 1, MAX_TRACKS):
            return ("tracks", station)
    for spot, line in enumerate(lines):
        if not _is_line(line, len(tracks)):
            return ("line", spot)
    for spot in range(1, len(lines)):
        if lines[spot] <= lines[spot - 1]:
            return ("order", spot)
    return None


def nexts(net, station):
    """Return the stations to which a line leads from station."""
    # Lines ascend, so what is left of them does, too.
    return tuple([target for origin, target in net[1] if origin == station])


def befores(net, station):
    """Return the stations from which a line leads to station."""
    return tuple([origin for origin, target in net[1] if target == station])


def turned(net):
    """Return the net in which each line leads the other way."""
    tracks, lines = net
    return (tracks, tuple(sorted([(target, origin) for origin, target in lines])))


def wider(net, station):
    """Return the net in which station has one track more."""
    tracks, lines = net
    if tracks[station] == MAX_TRACKS:
        raise Unfit()
    return (tracks[:station] + (tracks[station] + 1,) + tracks[station + 1:], lines)


def laid(net, origin, target):
    """Return the net with one more line, from origin to target."""
    tracks, lines = net
    if origin == target or (origin, target) in lines:
        raise Unfit()
    return (tracks, tuple(sorted(lines + ((origin, target),))))


def shut(net, origin, target):
    """Return the net without the line from origin to target."""
    tracks, lines = net
    if (origin, target) not in lines:
        raise Unfit()
    return (tracks, tuple([line for line in lines if line != (origin, target)]))


def _is_built(value):
    """Return whether value is a pair of a tuple of as many items as stations may be, and a tuple."""
    if not is_pair(value):
        return False
    tracks, lines = value
    if not isinstance(tracks, tuple) or not isinstance(lines, tuple):
        return False
    return 1 <= len(tracks) <= MAX_STATIONS


def _is_line(value, many):
    """Return whether value is a pair of two unlike ones of so many stations."""
    if not is_pair(value):
        return False
    origin, target = value
    return is_within(origin, 0, many - 1) and is_within(target, 0, many - 1) and origin != target

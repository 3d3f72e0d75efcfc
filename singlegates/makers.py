"""Nets of four shapes, made of their tracks alone."""

from singlegates.errors import Unfit
from singlegates.kinds import is_within
from singlegates.nets import net_error


def line_net(tracks):
    """Return the net in which stations stand in a row, with lines both ways between neighbours."""
    _require_tracks(tracks)
    lines = []
    for station in range(1, len(tracks)):
        lines.extend([(station - 1, station), (station, station - 1)])
    return _net(tracks, lines)


def ring_net(tracks):
    """Return the net in which one comes round by all stations, one way alone."""
    _require_tracks(tracks)
    return _net(tracks, _round_by(list(range(len(tracks)))))


def star_net(tracks):
    """Return the net with lines both ways between the station 0 and each other one."""
    _require_tracks(tracks)
    lines = []
    for station in range(1, len(tracks)):
        lines.extend([(0, station), (station, 0)])
    return _net(tracks, lines)


def eight_net(tracks, many):
    """Return the net of two rounds that meet at the station 0: one by the next many stations, one by all others."""
    _require_tracks(tracks)
    if not is_within(many, 1, len(tracks) - 2):
        raise Unfit()
    first = list(range(many + 1))
    second = [0] + list(range(many + 1, len(tracks)))
    return _net(tracks, _round_by(first) + _round_by(second))


def _require_tracks(value):
    """Raise Unfit() if value does not tell the tracks of a net."""
    if net_error((value, ())) is not None:
        raise Unfit()


def _round_by(stations):
    """Return the lines from each of stations to the one behind it, and from the last one to the first."""
    if len(stations) == 1:
        return []
    return [(stations[place - 1], stations[place]) for place in range(len(stations))]


def _net(tracks, lines):
    return (tracks, tuple(sorted(lines)))

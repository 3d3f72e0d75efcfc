"""Traps: standings in which nobody is stuck, and each move that can be made brings a lot."""

from singlegates.errors import Unfit
from singlegates.gates import apart, ungated
from singlegates.kinds import is_within
from singlegates.lots import brought, greatest_lot
from singlegates.makers import line_net
from singlegates.moving import moves
from singlegates.standings import standing_error
from singlegates.ways import plain


def trap(net):
    """Return a trap of net."""
    found = ungated(net)
    if found == ():
        raise Unfit()
    one, other = apart(net, found[0])
    return _crowd(net, one, other[1]) + _crowd(net, other, one[1])


def trap_error(net, value):
    """Return None if value is a trap of net, otherwise the first error that applies."""
    if standing_error(net, value) is not None:
        return "standing"
    if greatest_lot(net, value) != ():
        return "lot"
    found = moves(net, value)
    if found == ():
        return "still"
    for move in found:
        if brought(net, value, move) == ():
            return ("move", move)
    return None


def late_trap(many):
    """Return a net and a standing in which the trouble shows so many moves later."""
    if not is_within(many, 1, 8):
        raise Unfit()
    stations = tuple(range(many + 2))
    return (line_net((1,) * len(stations)), (plain(stations), plain(stations[::-1])))


def _crowd(net, stations, beyond):
    """Return the trains that hold all tracks of a round but those of its first station.

    Each one wants the next station of the round; those for which that is the first one go on from there to beyond.
    """
    trains = []
    for place in range(1, len(stations)):
        walk = (stations[place], stations[0], beyond)
        if place + 1 < len(stations):
            walk = (stations[place], stations[place + 1])
        trains.extend([plain(walk)] * net[0][stations[place]])
    return tuple(trains)

"""Changes while trains are on their ways: trains let in, ways changed, lines shut, tracks taken, trains held."""

from singlegates.bounds import MAX_TRAINS
from singlegates.errors import BadWay, Full, Needed, Refused, TooMany, Unfit
from singlegates.homes import home_row
from singlegates.kinds import is_ascending, is_integer, is_within
from singlegates.lots import closure, greatest_lot
from singlegates.nets import shut
from singlegates.offices import rank_in_order
from singlegates.standings import free_tracks, without
from singlegates.ways import way_error


def let_in(net, standing, way):
    """Return the standing with a train more that has this way."""
    _require_way(net, way)
    station = way[0]
    if free_tracks(net, standing, station) == 0:
        raise Full(station)
    if len(standing) >= MAX_TRAINS:
        raise TooMany(MAX_TRAINS)
    behind = standing + (way,)
    refuse(closure(net, behind, station))
    return behind


def rewayed(net, standing, train, way):
    """Return the standing in which train has this way instead of what is left of its own."""
    if not is_within(train, 0, len(standing) - 1) or standing[train] is None:
        raise Unfit()
    _require_way(net, way)
    station = way[0]
    if standing[train][0] != station:
        raise Unfit()
    behind = standing[:train] + (way,) + standing[train + 1:]
    refuse(closure(net, behind, station))
    return behind


def line_shut(net, standing, origin, target):
    """Return the net without the line from origin to target, and the standing with ways that do not go over it."""
    # A desk hands in whatever it is told, and to Python True is 1.
    if not is_integer(origin) or not is_integer(target):
        raise Unfit()
    left = shut(net, origin, target)
    behind = tuple([None if way is None else _cut(way, origin, target) for way in standing])
    needing = tuple([train for train, way in enumerate(standing) if way is not None and behind[train] is None])
    if needing != ():
        raise Needed(needing)
    refuse(greatest_lot(left, behind))
    return left, behind


def track_taken(net, standing, station):
    """Return the net with one track less at station."""
    tracks, lines = net
    if not is_within(station, 0, len(tracks) - 1) or tracks[station] == 1:
        raise Unfit()
    if free_tracks(net, standing, station) == 0:
        raise Full(station)
    left = (tracks[:station] + (tracks[station] - 1,) + tracks[station + 1:], lines)
    refuse(greatest_lot(left, standing))
    return left


def home_past(net, standing, held):
    """Return a run behind which all trains are gone but those of held, none of which moves."""
    if not is_ascending(held, len(standing) - 1) or None in [standing[train] for train in held]:
        raise Unfit()
    tracks, lines = net
    taken = [standing[train][0] for train in held]
    left = tuple([many - taken.count(station) for station, many in enumerate(tracks)])
    if 0 in left:
        raise Unfit()
    others = without(standing, held)
    return home_row((left, lines), others, rank_in_order(others))


def refuse(lot):
    """Raise Refused(lot) if lot is one, and not ()."""
    if lot != ():
        raise Refused(lot)


def _require_way(net, value):
    """Raise BadWay(error) if value is no way of net."""
    error = way_error(net, value)
    if error is not None:
        raise BadWay(error)


def _cut(way, origin, target):
    """Return way without what goes over the line from origin to target, None if all its choices are lost like this."""
    station, further = way
    if further == ():
        return way
    branches = [_cut(branch, origin, target) for branch in further if (station, branch[0]) != (origin, target)]
    left = tuple([branch for branch in branches if branch is not None])
    return (station, left) if left != () else None

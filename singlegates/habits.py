"""A habit for nets that are not gated: at some stations nobody ever rests, trains go through them in one go."""

from singlegates.errors import Unfit
from singlegates.gates import ungated
from singlegates.homes import home_row
from singlegates.nets import befores, nexts
from singlegates.offices import rank_in_order
from singlegates.ways import is_plain, plain, walks


def left_out(net):
    """Return the stations that are left out."""
    stations, _ = _by_habit(net)
    return stations


def lesser_net(net):
    """Return the net without lines to and from stations that are left out, and with lines past them."""
    _, lesser = _by_habit(net)
    return lesser


def lesser_way(net, way):
    """Return the way along the stations of way without those that are left out."""
    return _lesser_way(way, left_out(net))


def home_by_habit(net, standing):
    """Return a run behind which all trains are gone, in which nobody rests at a station that is left out."""
    stations, lesser = _by_habit(net)
    lesser_standing = tuple([None if way is None else _lesser_way(way, stations) for way in standing])
    ahead = {train: walks(way)[0][1:] for train, way in enumerate(standing) if way is not None}
    run = []
    for train, target in home_row(lesser, lesser_standing, rank_in_order(standing)):
        gone_by = _steps_to(ahead[train], target)
        ahead[train] = ahead[train][len(gone_by):]
        run.extend([(train, station) for station in gone_by])
        if target is None:
            run.append((train, None))
    return tuple(run)


def _by_habit(net):
    """Return the stations that are left out, and the lesser net."""
    found = []
    bare = ungated(net)
    while bare != ():
        found.append(bare[0])
        net = _joined_past(net, bare[0])
        bare = ungated(net)
    return tuple(sorted(found)), net


def _joined_past(net, station):
    """Return the net without the lines to and from station, in which those that it joined have lines of their own."""
    tracks, lines = net
    kept = [line for line in lines if station not in line]
    ends = nexts(net, station)
    joined = [(origin, target) for origin in befores(net, station) for target in ends if origin != target]
    return (tracks, tuple(sorted(set(kept + joined))))


def _lesser_way(way, stations):
    """Return the plain way along the stations of way that are not among those left out."""
    if not is_plain(way):
        raise Unfit()
    walk = walks(way)[0]
    if walk[0] in stations or walk[-1] in stations:
        raise Unfit()
    kept = [station for station in walk if station not in stations]
    return plain(tuple([station for spot, station in enumerate(kept) if spot == 0 or kept[spot - 1] != station]))


def _steps_to(walk, target):
    """Return the stations of walk up to target, all of them if target is None.

    Up to the next station of its lesser way a train only comes to left-out ones, and back to where it stands.
    """
    if target is None:
        return walk
    return walk[:walk.index(target) + 1]

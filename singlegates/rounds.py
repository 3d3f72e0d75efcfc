"""Rounds: how one comes by lines from a station back to it, and where one comes at all."""

from singlegates.kinds import is_within
from singlegates.nets import befores, nexts
from singlegates.ways import plain


def is_round(net, value):
    """Return whether value is a round of net."""
    tracks, lines = net
    if not isinstance(value, tuple) or len(value) < 2:
        return False
    if not all([is_within(station, 0, len(tracks) - 1) for station in value]) or len(set(value)) < len(value):
        return False
    return all([line in lines for line in round_lines(value)])


def round_lines(stations):
    """Return the lines of the round by stations; the one that leads to its first station stands first."""
    return [(stations[place - 1], stations[place]) for place in range(len(stations))]


def lightest_round(net):
    """Return the least weight of a round and a round that has it, None if there is no round."""
    found = [lightest_through(net, station) for station in range(len(net[0]))]
    return min([pair for pair in found if pair is not None], default=None)


def lightest_through(net, station):
    """Return the least weight of a round through station and such a round, from station on; None if there is none."""
    tracks, lines = net
    # The lightest roads from station that were found so far, by their ends. As each station has a track, a road that
    # comes to its own station again is heavier than the road on which it was there first, and is never kept.
    roads = {station: (tracks[station], (station,))}
    ahead = {}
    while ahead != roads:
        ahead = dict(roads)
        for origin, target in lines:
            if origin in roads:
                weight, road = roads[origin]
                longer = (weight + tracks[target], road + (target,))
                roads[target] = min(longer, roads.get(target, longer))
    return min([roads[origin] for origin in befores(net, station) if origin in roads], default=None)


def fewest_stuck(net):
    """Return a standing with a lot that has as few trains as can be, None if there is no round."""
    lightest = lightest_round(net)
    if lightest is None:
        return None
    _, stations = lightest
    standing = []
    for origin, target in round_lines(stations):
        standing.extend([plain((origin, target))] * net[0][origin])
    return tuple(standing)


def parts(net):
    """Return the parts of net."""
    stations = range(len(net[0]))
    reaches = [reach(net, station) for station in stations]
    found = []
    for station in stations:
        mates = [other for other in reaches[station] if station in reaches[other]]
        # Each part is told at its first station. One that no other comes to and back is in no reach of its own.
        if mates == [] or mates[0] == station:
            found.append(tuple(mates) if mates else (station,))
    return tuple(found)


def reach(net, station):
    """Return the stations to which one comes from station by one line or more."""
    found = {}
    waiting = [station]
    while waiting:
        here = waiting.pop()
        for target in nexts(net, here):
            if target not in found:
                found[target] = True
                waiting.append(target)
    return tuple(sorted(found))

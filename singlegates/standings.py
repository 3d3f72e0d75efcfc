"""Standings: where all trains stand, and what is left of their ways."""

from singlegates.bounds import MAX_TRAINS
from singlegates.ways import longest, way_error


def standing_error(net, value):
    """Return None if value is a standing for net, otherwise the first error that applies."""
    if not isinstance(value, tuple) or len(value) > MAX_TRAINS:
        return "form"
    for train, way in enumerate(value):
        error = None if way is None else way_error(net, way)
        if error is not None:
            return ("way", train, error)
    for station in range(len(net[0])):
        if free_tracks(net, value, station) < 0:
            return ("full", station)
    return None


def trains_at(standing, station):
    """Return the trains that stand at station."""
    return tuple([train for train, way in enumerate(standing) if way is not None and way[0] == station])


def free_tracks(net, standing, station):
    """Return how many tracks of station nobody stands at."""
    return net[0][station] - len(trains_at(standing, station))


def wants(standing, train):
    """Return the stations that train wants."""
    way = standing[train]
    if way is None:
        return ()
    return tuple([branch[0] for branch in way[1]])


def steps_left(standing):
    """Return how many moves there are at most in a run from standing."""
    return sum([longest(way) + 1 for way in standing if way is not None])


def all_gone(standing):
    """Return whether all trains are gone."""
    return all([way is None for way in standing])


def without(standing, trains):
    """Return the standing in which the trains of trains are gone, too."""
    return tuple([None if train in trains else way for train, way in enumerate(standing)])

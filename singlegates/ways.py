"""Ways: what a train may still do, as a tree of pairs of a station and the choices behind it."""

from singlegates.bounds import MAX_CHOICES, MAX_PAIRS, MAX_STATIONS, MAX_STEPS
from singlegates.errors import Unfit
from singlegates.kinds import is_pair, is_within


def way_error(net, value):
    """Return None if value is a way of net, otherwise the first error that applies."""
    if not _is_built(value):
        return "form"
    # Any value may be a deep tree; only when its pairs are counted it is safe to call oneself for each of them.
    if stops(value) > MAX_PAIRS:
        return "pairs"
    if longest(value) > MAX_STEPS:
        return "steps"
    tracks, lines = net
    places = _places(value)
    for number, (station, origin, ahead) in enumerate(places):
        if not is_within(station, 0, len(tracks) - 1):
            return ("station", number)
    for number, (station, origin, ahead) in enumerate(places):
        if origin is not None and (origin, station) not in lines:
            return ("line", number)
    for number, (station, origin, ahead) in enumerate(places):
        if ahead is not None and station <= ahead:
            return ("order", number)
    return None


def plain(stations):
    """Return the way with the one walk stations."""
    if not isinstance(stations, tuple) or not 1 <= len(stations) <= MAX_STEPS + 1:
        raise Unfit()
    if not all([is_within(station, 0, MAX_STATIONS - 1) for station in stations]):
        raise Unfit()
    way = (stations[-1], ())
    for station in stations[-2::-1]:
        way = (station, (way,))
    return way


def is_plain(way):
    """Return whether no pair of way has two choices or more."""
    return all([len(further) < 2 for _, further in _pairs(way)])


def choice(way, station):
    """Return the choice of way that begins at station."""
    if is_within(station, 0, MAX_STATIONS - 1):
        for branch in way[1]:
            if branch[0] == station:
                return branch
    raise Unfit()


def stops(way):
    """Return how many pairs way has."""
    return len(_pairs(way))


def longest(way):
    """Return the most steps of a walk through way."""
    return max([0] + [longest(branch) + 1 for branch in way[1]])


def shortest(way):
    """Return the fewest steps of a walk through way."""
    if way[1] == ():
        return 0
    return min([shortest(branch) + 1 for branch in way[1]])


def ends(way):
    """Return the stations at which walks through way end."""
    return tuple(sorted({station for station, further in _pairs(way) if further == ()}))


def visits(way):
    """Return all stations in way."""
    return tuple(sorted({station for station, _ in _pairs(way)}))


def walks(way):
    """Return all walks through way."""
    station, further = way
    if further == ():
        return ((station,),)
    # Choices ascend, and no walk goes on from another one's end: so these walks ascend as they come.
    return tuple([(station,) + walk for branch in further for walk in walks(branch)])


def _is_built(value):
    """Return whether value, and each choice in it, is a pair of an item and a tuple of so many choices."""
    waiting = [value]
    while waiting:
        pair = waiting.pop()
        if not is_pair(pair) or not isinstance(pair[1], tuple) or len(pair[1]) > MAX_CHOICES:
            return False
        waiting.extend(pair[1])
    return True


def _pairs(way):
    """Return the pairs of way, in whatever order."""
    pairs = []
    waiting = [way]
    while waiting:
        pair = waiting.pop()
        pairs.append(pair)
        waiting.extend(pair[1])
    return pairs


def _places(way):
    """Return a triple for each pair of way, by its number.

    It has the station of the pair, that of the pair whose choice it is, and that of the choice ahead of it; None
    stands for the station of a pair that is not there.
    """
    places = []
    waiting = [(way, None, None)]
    while waiting:
        (station, further), origin, ahead = waiting.pop()
        places.append((station, origin, ahead))
        behind = [None] + [branch[0] for branch in further]
        rows = [(branch, station, behind[spot]) for spot, branch in enumerate(further)]
        waiting.extend(rows[::-1])
    return places

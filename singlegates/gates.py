"""Gates: stations by which all rounds through another station go, and pairs of rounds where there is none."""

from singlegates.errors import Ungated
from singlegates.kinds import is_integer, is_pair
from singlegates.nets import nexts, wider
from singlegates.rounds import is_round, lightest_through, reach, round_lines


def gates(net, station):
    """Return the gates of station, None if no round goes through it."""
    if station not in reach(net, station):
        return None
    others = [other for other in range(len(net[0])) if other != station]
    return tuple([other for other in others if station not in reach(_passed_by(net, other), station)])


def apart(net, station):
    """Return two rounds that begin at station and share no other station, None if there are no such two."""
    lightest = lightest_through(net, station)
    if lightest is None:
        return None
    _, one = lightest
    way = _second_way(net, one)
    if way is None:
        return None
    lines = _joined(round_lines(one), way)
    return tuple([_round_along(lines, first) for first in lines if first[0] == station])


def gate_paper(net, station):
    """Return a paper that tells whether station has a gate, and why."""
    found = gates(net, station)
    if found is None:
        return ("none",)
    if found != ():
        return ("gate", found[0])
    return ("apart",) + apart(net, station)


def gate_error(net, station, value):
    """Return None if value is a right paper for station, otherwise the first error that applies."""
    word = _word_of(value)
    if word == "none":
        right = gates(net, station) is None
    elif word == "gate":
        right = value[1] in (gates(net, station) or ())
    elif word == "apart":
        right = _are_apart(net, station, value[1], value[2])
    else:
        return "form"
    return None if right else word


def ungated(net):
    """Return the stations with one track that lie on a round and have no gate."""
    return tuple([station for station, many in enumerate(net[0]) if many == 1 and gates(net, station) == ()])


def is_gated(net):
    """Return whether there are no ungated stations."""
    return ungated(net) == ()


def widened(net):
    """Return the net with one track more at each ungated station."""
    for station in ungated(net):
        net = wider(net, station)
    return net


def require_gated(net):
    """Raise Ungated(station) with the least ungated station of net, if it has one."""
    stations = ungated(net)
    if stations != ():
        raise Ungated(stations[0])


def _passed_by(net, station):
    """Return the net without the lines to and from station."""
    tracks, lines = net
    return (tracks, tuple([line for line in lines if station not in line]))


def _second_way(net, one):
    """Return the places of a way from the first station of the round one back to it, None if there is none.

    The way goes by no line of the round, and through a station of the round only against the line by which the round
    comes there. So it has two kinds of places: (station, False), where it has come, and (station, True), from where it
    may go on by each line. Where no such way is left, another station lies on all rounds through the first one.
    """
    start = one[0]
    ahead = {one[place]: one[place - 1] for place in range(1, len(one))}
    came = {(start, True): None}
    waiting = [(start, True)]
    while waiting:
        place = waiting.pop()
        for further in _further_places(net, place, ahead):
            if further == (start, False):
                return _back_along(came, place) + [further]
            if further not in came:
                came[further] = place
                waiting.append(further)
    return None


def _further_places(net, place, ahead):
    """Return the places behind place on a second way; ahead tells the station ahead of each one of the round."""
    station, may_go = place
    if not may_go and station not in ahead:
        return [(station, True)]
    found = []
    if station in ahead:
        found.append((ahead[station], True))
    if may_go:
        found.extend([(target, False) for target in nexts(net, station) if ahead.get(target) != station])
    return found


def _back_along(came, place):
    """Return the places up to place; came tells for each one from which it was come to, for the first one None."""
    places = []
    while place is not None:
        places.append(place)
        place = came[place]
    return places[::-1]


def _joined(lines, places):
    """Return lines of a round without those that a second way goes against, and with those by which it goes."""
    found = {line: True for line in lines}
    for spot in range(1, len(places)):
        (origin, _), (target, may_go) = places[spot - 1], places[spot]
        if may_go and origin != target:
            del found[(target, origin)]
        elif not may_go:
            found[(origin, target)] = True
    return sorted(found)


def _round_along(lines, first):
    """Return the round that begins with the line first and goes on along lines."""
    start, here = first
    stations = [start]
    while here != start:
        stations.append(here)
        here = [target for origin, target in lines if origin == here][0]
    return tuple(stations)


def _word_of(value):
    """Return the first word of a value that is built like a paper, None if it is not."""
    if value == ("none",):
        return "none"
    if is_pair(value) and value[0] == "gate" and is_integer(value[1]):
        return "gate"
    if isinstance(value, tuple) and len(value) == 3 and value[0] == "apart":
        if isinstance(value[1], tuple) and isinstance(value[2], tuple):
            return "apart"
    return None


def _are_apart(net, station, one, other):
    """Return whether one and other are two rounds that begin at station and share no other station."""
    if not is_round(net, one) or not is_round(net, other):
        return False
    return one[0] == other[0] == station and len(set(one + other)) == len(one) + len(other) - 1

"""Closed lots: full stations whose trains want one another's stations alone, so that none of them ever moves."""

from singlegates.kinds import is_ascending
from singlegates.moving import moved
from singlegates.standings import free_tracks, trains_at, wants


def is_lot(net, standing, value):
    """Return whether value is a lot of standing."""
    if not is_ascending(value, len(net[0]) - 1) or value == ():
        return False
    wanted = _wanted(net, standing)
    return all([station in wanted and _holds(value, wanted[station]) for station in value])


def closure(net, standing, station):
    """Return the least lot of standing that holds station, () if none does."""
    wanted = _wanted(net, standing)
    lot = {}
    waiting = [station]
    while waiting:
        here = waiting.pop()
        if here not in wanted:
            return ()
        if here not in lot:
            lot[here] = True
            waiting.extend(wanted[here])
    return tuple(sorted(lot))


def greatest_lot(net, standing):
    """Return the lot of standing that has all stations of all its lots, () if it has none."""
    wanted = _wanted(net, standing)
    lot = ()
    left = tuple(sorted(wanted))
    while lot != left:
        lot = left
        left = tuple([station for station in lot if _holds(lot, wanted[station])])
    return lot


def least_lots(net, standing):
    """Return the lots of standing of which no other lot is a part."""
    closures = {station: closure(net, standing, station) for station in greatest_lot(net, standing)}
    # A lot is least if it is the least one for each of its stations; it is told once, at the first of them.
    return tuple([
        lot for station, lot in closures.items()
        if station == lot[0] and all([closures[other] == lot for other in lot])
    ])


def stuck(net, standing):
    """Return the trains that stand at stations of the greatest lot."""
    lot = greatest_lot(net, standing)
    return tuple([train for train, way in enumerate(standing) if way is not None and way[0] in lot])


def lifted(net, standing):
    """Return as few trains as can be, without which standing has no lot."""
    return tuple(sorted([trains_at(standing, lot[0])[0] for lot in least_lots(net, standing)]))


def brought(net, standing, move):
    """Return the lot that move brings, () if it brings none."""
    behind = moved(net, standing, move)
    _, target = move
    if target is None:
        return ()
    return closure(net, behind, target)


def _wanted(net, standing):
    """Return what the trains want at each station that is full and whose trains all want something."""
    found = {}
    for station in range(len(net[0])):
        rows = [wants(standing, train) for train in trains_at(standing, station)]
        if free_tracks(net, standing, station) == 0 and () not in rows:
            found[station] = [target for row in rows for target in row]
    return found


def _holds(lot, stations):
    """Return whether all of stations are in lot."""
    return all([station in lot for station in stations])

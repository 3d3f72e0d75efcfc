"""Days: trains come in by a timetable, several move at once, they take their time, and are late."""

from singlegates.bounds import MAX_ENTRY, MAX_MINUTES, MAX_TRAINS
from singlegates.errors import BadDay, Unfit
from singlegates.gates import require_gated
from singlegates.kinds import are_within, is_integer, is_row, is_within
from singlegates.lots import brought, closure
from singlegates.nets import net_error
from singlegates.rails import GOES, OUT, STANDS, WORDS, Rails
from singlegates.ways import longest, way_error

MAX_RANK = 40


def day_error(value):
    """Return None if value is a day, otherwise the first error that applies."""
    if not is_row(value, 3):
        return "form"
    net, minutes, trains = value
    error = net_error(net)
    if error is not None:
        return ("net", error)
    if not are_within(minutes, len(net[1]), 1, MAX_MINUTES):
        return "minutes"
    if not isinstance(trains, tuple) or len(trains) > MAX_TRAINS:
        return "trains"
    for train, told in enumerate(trains):
        word = _train_error(net, told)
        if word is not None:
            return ("train", train, word)
    return None


def played(day, delays):
    """Return the log of day with delays."""
    error = day_error(day)
    if error is not None:
        raise BadDay(error)
    if not _are_delays(day, delays):
        raise Unfit()
    net, _, trains = day
    require_gated(net)
    rails = Rails(day, delays)
    order = sorted(list(range(len(trains))), key=lambda train: trains[train][3])
    log = []
    minute = 0
    # Only in these minutes something can be done that could not be done ahead of them.
    while minute is not None:
        log.extend(_led(net, rails, order, minute))
        minute = rails.next_minute(minute)
    return tuple(log)


def log_error(day, value):
    """Return None if value is a log by which all trains are gone in the end, otherwise the first error that applies."""
    if not isinstance(value, tuple) or not all([_is_log_row(day, row) for row in value]):
        return "form"
    rails = Rails(day, ())
    before = 0
    for spot, row in enumerate(value):
        word = _row_error(rails, before, row)
        if word is not None:
            return (spot, word)
        rails.do(row)
        before = row[0]
    return None if rails.are_gone() else "left"


def _train_error(net, value):
    """Return None if value is a train of a day on net, otherwise the first word that applies."""
    if not is_row(value, 4):
        return "form"
    way, entry, stays, rank = value
    if way_error(net, way) is not None:
        return "way"
    if not is_within(entry, 0, MAX_ENTRY):
        return "entry"
    if not are_within(stays, longest(way) + 1, 0, MAX_MINUTES):
        return "stays"
    return None if is_within(rank, 0, MAX_RANK) else "rank"


def _are_delays(day, value):
    """Return whether value are delays of day."""
    if value == ():
        return True
    many = [len(stays) + 1 for _, _, stays, _ in day[2]]
    if not is_row(value, len(many)):
        return False
    return all([are_within(late, many[train], 0, MAX_MINUTES) for train, late in enumerate(value)])


def _led(net, rails, order, minute):
    """Let the trains do all that they can in this minute, and return the rows that tell it."""
    rows = [(minute, train, "at", rails.ways[train][0]) for train in rails.due(minute)]
    for row in rows:
        rails.do(row)
    row = _next_row(net, rails, order, minute)
    while row is not None:
        rails.do(row)
        rows.append(row)
        row = _next_row(net, rails, order, minute)
    return rows


def _next_row(net, rails, order, minute):
    """Return the row of what the first train in order that can do something does, None if there is none."""
    for train in order:
        deed = _deed(net, rails, train) if rails.ready[train] <= minute else None
        if deed is not None:
            return (minute, train) + deed
    return None


def _deed(net, rails, train):
    """Return the word and the station of what a train does whose time has come, None if it can do nothing."""
    station = rails.ways[train][0]
    if rails.phases[train] == OUT:
        return ("in", station) if _may_come_in(net, rails, train) else None
    if rails.phases[train] != STANDS:
        return None
    targets = rails.targets(train)
    if targets == []:
        return ("out", station)
    for target in targets:
        if rails.is_open(target) and brought(net, rails.aimed(), (train, target)) == ():
            return ("go", target)
    return None


def _may_come_in(net, rails, train):
    """Return whether the station of a train that is out is open, and no lot would hold it if the train stood there."""
    way = rails.ways[train]
    if not rails.is_open(way[0]):
        return False
    aimed = rails.aimed()
    return closure(net, aimed[:train] + (way,) + aimed[train + 1:], way[0]) == ()


def _is_log_row(day, value):
    """Return whether value is built like a row of a log of day."""
    if not is_row(value, 4):
        return False
    minute, train, word, station = value
    if not is_integer(minute) or minute < 0 or word not in WORDS:
        return False
    net, _, trains = day
    return is_within(train, 0, len(trains) - 1) and is_within(station, 0, len(net[0]) - 1)


def _row_error(rails, before, row):
    """Return None if the trains can do what row tells, otherwise the first word that applies."""
    minute, train, word, station = row
    if minute < before:
        return "minute"
    if rails.due(minute - 1) != []:
        return "due"
    if not _is_word(rails, train, word):
        return "word"
    stations = rails.targets(train) if word == "go" else [rails.ways[train][0]]
    if station not in stations:
        return "station"
    if minute < rails.ready[train]:
        return "early"
    if word in ("in", "go") and not rails.is_open(station):
        return "full"
    return None


def _is_word(rails, train, word):
    """Return whether word tells what train does next, whenever and wherever."""
    phase = rails.phases[train]
    if word == "in":
        return phase == OUT
    if word == "at":
        return phase == GOES
    return phase == STANDS and (rails.targets(train) == []) == (word == "out")

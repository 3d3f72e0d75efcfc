"""Days and their logs as texts."""

from singlegates.bounds import MAX_ENTRY, MAX_MINUTES, MAX_STATIONS, MAX_TRAINS
from singlegates.days import MAX_RANK, day_error
from singlegates.errors import BadText
from singlegates.kinds import number_of
from singlegates.nettexts import net_text, read_net
from singlegates.rails import WORDS
from singlegates.waytexts import read_way, way_text

MAX_LOG_MINUTE = 999999


def day_text(day):
    """Return the text of day."""
    net, minutes, trains = day
    lines = [net_text(net), " ".join(["minutes"] + [str(many) for many in minutes])]
    return "\n".join(lines + [_train_text(told) for told in trains])


def read_day(value):
    """Return the day whose text value is."""
    if not isinstance(value, str):
        raise BadText()
    first, *rest = value.split("\n")
    if rest == []:
        raise BadText()
    net = read_net(first)
    day = (net, _minutes_of(rest[0]), tuple([_train_of(net, line) for line in rest[1:]]))
    # What is no number was read as None, which no day has.
    if day_error(day) is not None:
        raise BadText()
    return day


def log_text(log):
    """Return the text of log."""
    return "\n".join([f"{minute} {train} {word} {station}" for minute, train, word, station in log])


def read_log(value):
    """Return the quadruples whose text value is."""
    if not isinstance(value, str):
        raise BadText()
    lines = [] if value == "" else value.split("\n")
    return tuple([_log_row_of(line) for line in lines])


def _train_text(told):
    """Return the line that tells a train."""
    way, entry, stays, rank = told
    text = ",".join([str(many) for many in stays])
    return f"{way_text(way)} from {entry} stays {text} rank {rank}"


def _minutes_of(line):
    """Return the minutes that line tells."""
    first, *rest = line.split(" ")
    if first != "minutes":
        raise BadText()
    return tuple([number_of(word, MAX_MINUTES) for word in rest])


def _train_of(net, line):
    """Return the train that line tells."""
    words = line.split(" ")
    if len(words) != 7 or words[1::2] != ["from", "stays", "rank"]:
        raise BadText()
    stays = tuple([number_of(word, MAX_MINUTES) for word in words[4].split(",")])
    return (read_way(net, words[0]), number_of(words[2], MAX_ENTRY), stays, number_of(words[6], MAX_RANK))


def _log_row_of(line):
    """Return the quadruple that line tells."""
    words = line.split(" ")
    if len(words) != 4 or words[2] not in WORDS:
        raise BadText()
    minute = number_of(words[0], MAX_LOG_MINUTE)
    train = number_of(words[1], MAX_TRAINS - 1)
    station = number_of(words[3], MAX_STATIONS - 1)
    if None in (minute, train, station):
        raise BadText()
    return (minute, train, words[2], station)

"""Standings and runs as texts."""

from singlegates.bounds import MAX_MOVES, MAX_STATIONS, MAX_TRAINS
from singlegates.errors import BadText
from singlegates.kinds import number_of
from singlegates.standings import standing_error
from singlegates.waytexts import read_way, way_text


def standing_text(standing):
    """Return the text of standing."""
    return ";".join(["." if way is None else way_text(way) for way in standing])


def read_standing(net, value):
    """Return the standing for net whose text value is."""
    if not isinstance(value, str):
        raise BadText()
    standing = tuple([None if word == "." else read_way(net, word) for word in _words(value, ";")])
    if standing_error(net, standing) is not None:
        raise BadText()
    return standing


def run_text(run):
    """Return the text of run."""
    return " ".join([f"{train}!" if target is None else f"{train}>{target}" for train, target in run])


def read_run(value):
    """Return the pairs whose text value is."""
    if not isinstance(value, str):
        raise BadText()
    words = _words(value, " ")
    if len(words) > MAX_MOVES:
        raise BadText()
    return tuple([_move_of(word) for word in words])


def _words(text, sign):
    """Return what stands in text between the signs; the text "" has nothing in it."""
    return [] if text == "" else text.split(sign)


def _move_of(word):
    """Return the pair that word tells."""
    if word.endswith("!"):
        return (_number(word[:-1], MAX_TRAINS - 1), None)
    train, _, target = word.partition(">")
    return (_number(train, MAX_TRAINS - 1), _number(target, MAX_STATIONS - 1))


def _number(text, most):
    """Return the number from 0 to most whose text is text."""
    number = number_of(text, most)
    if number is None:
        raise BadText()
    return number

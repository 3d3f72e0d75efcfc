"""Nets as texts."""

from singlegates.bounds import MAX_STATIONS, MAX_TRACKS
from singlegates.errors import BadText
from singlegates.kinds import number_of
from singlegates.nets import net_error


def net_text(net):
    """Return the text of net."""
    tracks, lines = net
    words = []
    for origin, target in lines:
        if (target, origin) not in lines:
            words.append(f" {origin}>{target}")
        elif origin < target:
            words.append(f" {origin}={target}")
    return " ".join([str(many) for many in tracks]) + ":" + "".join(words)


def read_net(value):
    """Return the net whose text value is."""
    if not isinstance(value, str):
        raise BadText()
    head, _, rest = value.partition(":")
    tracks = tuple([number_of(word, MAX_TRACKS) for word in head.split(" ")])
    lines = []
    for word in rest.split(" ")[1:]:
        lines.extend(_lines_of(word))
    net = (tracks, tuple(sorted(lines)))
    # A net has one text, so whatever else was read as this net is the text of none.
    if net_error(net) is not None or net_text(net) != value:
        raise BadText()
    return net


def _lines_of(word):
    """Return the one line, or the two, that a word tells."""
    origin = number_of(word[:1], MAX_STATIONS - 1)
    target = number_of(word[2:], MAX_STATIONS - 1)
    if origin is None or target is None:
        raise BadText()
    if word[1:2] == "=":
        return [(origin, target), (target, origin)]
    return [(origin, target)]

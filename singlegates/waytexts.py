"""Ways as texts."""

from singlegates.bounds import MAX_PAIRS, MAX_STATIONS
from singlegates.errors import BadText
from singlegates.kinds import number_of
from singlegates.ways import way_error


def way_text(way):
    """Return the text of way."""
    station, further = way
    if further == ():
        return str(station)
    texts = [way_text(branch) for branch in further]
    if len(texts) == 1:
        return f"{station}-{texts[0]}"
    return f"{station}-(" + "|".join(texts) + ")"


def read_way(net, value):
    """Return the way of net whose text value is."""
    # Each pair has one figure, one of "-" and "|", and two brackets at most. A longer text is the text of no way,
    # and to read it could go too deep.
    if not isinstance(value, str) or len(value) > 4 * MAX_PAIRS:
        raise BadText()
    way, _ = _way_at(value, 0)
    # A way has one text, so whatever else was read as this way is the text of none.
    if way_error(net, way) is not None or way_text(way) != value:
        raise BadText()
    return way


def _way_at(text, spot):
    """Return the way that text tells from spot on, and the spot behind it."""
    station = number_of(text[spot:spot + 1], MAX_STATIONS - 1)
    if station is None:
        raise BadText()
    if text[spot + 1:spot + 2] != "-":
        return (station, ()), spot + 1
    if text[spot + 2:spot + 3] != "(":
        branch, behind = _way_at(text, spot + 2)
        return (station, (branch,)), behind
    further, behind = _choices_at(text, spot + 3)
    return (station, further), behind


def _choices_at(text, spot):
    """Return the choices that text tells from spot, behind a bracket, on, and the spot behind their other bracket."""
    branch, behind = _way_at(text, spot)
    branches = [branch]
    while text[behind:behind + 1] == "|":
        branch, behind = _way_at(text, behind + 1)
        branches.append(branch)
    if text[behind:behind + 1] != ")":
        raise BadText()
    return tuple(branches), behind + 1

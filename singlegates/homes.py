"""Ways home: runs behind which all trains are gone, and papers that show whether there is one."""

from singlegates.bounds import MAX_SEEN
from singlegates.errors import Stuck, TooMany, Unfit
from singlegates.gates import require_gated
from singlegates.kinds import is_pair
from singlegates.lots import greatest_lot, is_lot
from singlegates.moving import led, moved, moves, run_error
from singlegates.offices import first_let, is_rank, rank_in_order
from singlegates.standings import all_gone
from singlegates.waytexts import way_text


def home_row(net, standing, rank):
    """Return the run that has the first let move by rank, again and again, until all trains are gone."""
    if not is_rank(standing, rank):
        raise Unfit()
    require_gated(net)
    lot = greatest_lot(net, standing)
    if lot != ():
        raise Stuck(lot)
    run = []
    # It ends: in a gated net without a lot some move is let as long as a train is left.
    while not all_gone(standing):
        move = first_let(net, standing, rank)
        run.append(move)
        standing = moved(net, standing, move)
    return tuple(run)


def home_paper(net, standing):
    """Return a paper that shows whether all trains can get home: a run, or a lot."""
    require_gated(net)
    lot = greatest_lot(net, standing)
    if lot != ():
        return ("lot", lot)
    return ("row", home_row(net, standing, rank_in_order(standing)))


def paper_error(net, standing, value):
    """Return None if value is a right paper for standing, otherwise the first error that applies."""
    if not is_pair(value):
        return "form"
    word, shown = value
    if word == "lot":
        return None if is_lot(net, standing, shown) else "lot"
    if word == "row":
        return _row_error(net, standing, shown)
    return "form"


def savable(net, standing):
    """Return whether some run from standing leads all trains off."""
    texts = tuple([_text(way) for way in standing])
    # Ways may be nested too deep for keys, so standings are told apart by the texts of their ways.
    seen = {texts: True}
    waiting = [(standing, texts)]
    while waiting:
        now, texts = waiting.pop()
        for move in moves(net, now):
            behind = moved(net, now, move)
            train, _ = move
            further = texts[:train] + (_text(behind[train]),) + texts[train + 1:]
            if further not in seen:
                seen[further] = True
                waiting.append((behind, further))
        if len(seen) > MAX_SEEN:
            raise TooMany(MAX_SEEN)
    return (_text(None),) * len(standing) in seen


def _row_error(net, standing, value):
    """Return None if value is a run behind which all trains are gone, otherwise the first error that applies."""
    error = run_error(net, standing, value)
    if error == "form":
        return "form"
    if error is not None:
        spot, _ = error
        return ("move", spot)
    return None if all_gone(led(net, standing, value)) else "left"


def _text(way):
    """Return what tells a train in the text of a standing."""
    return "." if way is None else way_text(way)

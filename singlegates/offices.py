"""The office: which moves it lets, and which of them goes first by a rank of the trains."""

from singlegates.errors import Unfit
from singlegates.kinds import is_integer
from singlegates.lots import brought
from singlegates.moving import moves


def lets(net, standing, move):
    """Return whether the office lets move."""
    return brought(net, standing, move) == ()


def let_moves(net, standing):
    """Return all moves that can be made and are let, by trains and then by stations."""
    return tuple([move for move in moves(net, standing) if lets(net, standing, move)])


def let_into(net, standing, station):
    """Return those let moves in which a train goes to station."""
    return tuple([move for move in moves(net, standing) if move[1] == station and lets(net, standing, move)])


def first_let(net, standing, rank):
    """Return the first let move of the first train of rank that has one, None if no move is let."""
    if not is_rank(standing, rank):
        raise Unfit()
    found = moves(net, standing)
    for train in rank:
        for move in found:
            if move[0] == train and lets(net, standing, move):
                return move
    return None


def is_rank(standing, value):
    """Return whether value is a rank of standing."""
    if not isinstance(value, tuple) or not all([is_integer(train) for train in value]):
        return False
    return sorted(value) == list(range(len(standing)))


def rank_in_order(standing):
    """Return the rank in which each train is ahead of those with greater numbers."""
    return tuple(range(len(standing)))

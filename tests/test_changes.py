"""Changes under way: [A3], [I1] to [I5], and of [I6] what holds of them."""

import random
import unittest

from support import (
    BOTH, LOOP, TEN, OfficeCase, any_values, counted, crowded, free_standings, integers_not, leaves, nearly_stuck, nets_of_all_kinds,
    some_nets, some_standing, some_standings, some_way, spoilt, told_behind, told_closure, told_greatest, told_moves, told_ungated,
)

from singlegates.changes import home_past, let_in, line_shut, rewayed, track_taken
from singlegates.errors import BadWay, Full, Needed, Refused, Stuck, TooMany, Unfit, Ungated
from singlegates.gates import is_gated
from singlegates.makers import line_net, ring_net
from singlegates.moving import led, run_error
from singlegates.nets import net_error
from singlegates.standings import standing_error, without
from singlegates.ways import plain, walks, way_error

DUO, EAST = line_net((1, 2, 1)), plain((0, 1, 2))
FACING = (EAST, plain((1, 0)))
CROWD = FACING + (plain((1, 2)),)
TRI = ((2, 2, 2), ((0, 1), (0, 2), (1, 0), (1, 2), (2, 0), (2, 1)))
EITHER = (0, ((1, ((2, ()),)), (2, ())))
CIRCLE = ring_net((1, 2, 1))
ONE = ((1,), ())
FAR = 10 ** 399
# Two pairs of stations apart, and 4 beside the second one, from where one comes to it.
PAIRS = ((1, 1, 1, 2, 1), ((0, 1), (1, 0), (2, 3), (3, 2), (3, 4), (4, 3)))
JAMMED_PAIR = (plain((0, 1)), plain((1, 0)))
NO_TRAINS = [None, True, False, "0", "", (), (0,), [0], {}, {0: 0}, -1, -2, FAR, -FAR]
NO_WAYS = [
    ((0,), "form"), ([0, ()], "form"), ((0, []), "form"), ((0, (), ()), "form"), ((0, None), "form"), (None, "form"), (0, "form"), ("0", "form"), ((), "form"),
    ((1, leaves(0, 2, 0, 2)), "form"), ((0, ((1, [(2, ())]),)), "form"), ((0, (1,)), "form"), (counted(41), "pairs"), (plain((0, 1) * 6 + (0,)), None),
    ((1, (plain((0, 1) * 6 + (0,)),)), "steps"), ((5, ()), ("station", 0)), ((-1, ()), ("station", 0)), ((True, ()), ("station", 0)), (("0", ()), ("station", 0)),
    ((0, ((3, ()),)), ("station", 1)), ((0, ((1, ((FAR, ()),)),)), ("station", 2)), ((0, ((2, ()),)), ("line", 1)), ((0, ((0, ()),)), ("line", 1)),
    ((1, ((0, ((2, ()),)), (2, ()))), ("line", 2)), ((1, leaves(2, 0)), ("order", 2)), ((1, leaves(0, 0)), ("order", 2)), ((0, ((1, leaves(2, 0)),)), ("order", 3)),
]


def changed_ways(seed, many, way):
    """Ways with something turned at one of their pairs."""
    chance = random.Random(seed)
    return [spoilt(chance, way) for _ in range(many)]


class LetIn(OfficeCase):
    def test_let_in(self):
        self.gives(FACING + (plain((1, 2)),), let_in, DUO, FACING, plain((1, 2)))
        self.gives(FACING + ((1, ()),), let_in, DUO, FACING, (1, ()))
        self.gives(FACING + ((2, ()),), let_in, DUO, FACING, (2, ()))
        self.gives((EAST,), let_in, DUO, (), EAST)
        self.gives((None, EAST), let_in, DUO, (None,), EAST)
        self.gives(((0, ()),), let_in, ONE, (), (0, ()))
        self.gives((EITHER, EITHER), let_in, TRI, (EITHER,), EITHER)
        self.gives(FACING + ((1, leaves(0, 2)),), let_in, DUO, FACING, (1, leaves(0, 2)))

    def test_bad_ways(self):
        for value, error in NO_WAYS:
            if error is not None:
                self.refuses(BadWay, {"error": error}, let_in, DUO, FACING, value)
                self.refuses(BadWay, {"error": error}, let_in, DUO, (), value)
        for value in any_values():
            told = way_error(DUO, value)
            self.assertIsNotNone(told)
            self.refuses(BadWay, {"error": told}, let_in, DUO, FACING, value)
        for value in changed_ways(261, 60, (1, ((0, ((1, ((2, ()),)),)), (2, ((1, ()),))))):
            told = way_error(DUO, value)
            if told is None:
                self.gives((value,), let_in, DUO, (), value)
            else:
                self.refuses(BadWay, {"error": told}, let_in, DUO, (), value)

    def test_full(self):
        self.refuses(Full, {"station": 0}, let_in, DUO, FACING, EAST)
        self.refuses(Full, {"station": 0}, let_in, DUO, FACING, (0, ()))
        self.refuses(Full, {"station": 1}, let_in, DUO, CROWD, (1, ()))
        self.refuses(Full, {"station": 1}, let_in, DUO, ((1, ()), (1, ())), plain((1, 0)))
        self.refuses(Full, {"station": 0}, let_in, ONE, ((0, ()),), (0, ()))
        self.gives(CROWD[:2] + (None, (1, ())), let_in, DUO, CROWD[:2] + (None,), (1, ()))

    def test_40_items(self):
        self.gives((None,) * 39 + (EAST,), let_in, DUO, (None,) * 39, EAST)
        self.refuses(TooMany, {"limit": 40}, let_in, DUO, (None,) * 40, EAST)
        self.refuses(TooMany, {"limit": 40}, let_in, DUO, FACING + (None,) * 38, plain((1, 2)))
        forty = tuple([(station, ()) for station in range(10) for _ in range(4)])
        self.gives(forty, let_in, TEN, forty[:39], (9, ()))
        self.refuses(Full, {"station": 9}, let_in, TEN, forty, (9, ()))
        self.refuses(TooMany, {"limit": 40}, let_in, TEN, forty[:39] + (None,), (9, ()))

    def test_refused(self):
        self.refuses(Refused, {"lot": (0, 1)}, let_in, DUO, FACING, plain((1, 0)))
        self.refuses(Refused, {"lot": (0, 1)}, let_in, DUO, FACING, plain((1, 0, 1, 2)))
        self.refuses(Refused, {"lot": (0, 1, 2)}, let_in, LOOP, (plain((0, 1)), None, plain((2, 0, 1))), plain((1, 2)))
        self.gives((plain((0, 1)), None, plain((2, 0, 1)), (1, ())), let_in, LOOP, (plain((0, 1)), None, plain((2, 0, 1))), (1, ()))

    def test_the_least_lot_that_holds_the_station(self):
        line = ((1, 1, 1), DUO[1])
        self.refuses(Refused, {"lot": (0, 1)}, let_in, line, (plain((0, 1)), plain((2, 1))), plain((1, 0)))
        self.refuses(Refused, {"lot": (1, 2)}, let_in, line, (plain((0, 1)), plain((2, 1))), plain((1, 2)))
        self.refuses(Refused, {"lot": (0, 1, 2)}, let_in, line, (plain((0, 1)), plain((2, 1))), (1, leaves(0, 2)))
        self.refuses(Refused, {"lot": (0, 1, 2)}, let_in, line, (plain((0, 1)), plain((1, 0))), plain((2, 1)))
        self.refuses(Refused, {"lot": (2, 3)}, let_in, PAIRS, JAMMED_PAIR + (plain((2, 3)), plain((3, 2))), plain((3, 2)))

    def test_a_lot_elsewhere_does_not_matter(self):
        self.gives(JAMMED_PAIR + (plain((2, 3)),), let_in, PAIRS, JAMMED_PAIR, plain((2, 3)))
        self.gives(JAMMED_PAIR + ((4, ()),), let_in, PAIRS, JAMMED_PAIR, (4, ()))

    def test_several_errors_at_once(self):
        self.refuses(BadWay, {"error": ("line", 1)}, let_in, DUO, FACING + (None,) * 38, (0, ((2, ()),)))
        self.refuses(BadWay, {"error": "form"}, let_in, ONE, ((0, ()),) + (None,) * 39, (0, 0))
        self.refuses(Full, {"station": 0}, let_in, DUO, FACING + (None,) * 38, EAST)
        self.refuses(TooMany, {"limit": 40}, let_in, DUO, FACING + (None,) * 38, plain((1, 0)))

    def test_all_kinds_of_standings(self):
        chance = random.Random(262)
        told = {"full": 0, "lot": 0, "in": 0}
        for net, standing in list(crowded(263, 150)) + list(nearly_stuck(264, 100, (1, 2))) + list(some_standings(265, 60)):
            standing = standing[:39]
            if standing and chance.random() < 0.8:
                out = chance.randrange(len(standing))
                standing = standing[:out] + (None,) + standing[out + 1:]
            for station in range(len(net[0])):
                way = some_way(chance, net, station, chance.choice((0, 1, 1, 2)), 20)[0]
                if len([item for item in standing if item is not None and item[0] == station]) == net[0][station]:
                    self.refuses(Full, {"station": station}, let_in, net, standing, way)
                    told["full"] += 1
                    continue
                lot = told_closure(net, standing + (way,), station)
                if lot:
                    self.refuses(Refused, {"lot": lot}, let_in, net, standing, way)
                else:
                    self.gives(standing + (way,), let_in, net, standing, way)
                told["lot" if lot else "in"] += 1
        self.assertGreater(min(told.values()), 50, told)


class Rewayed(OfficeCase):
    def test_rewayed(self):
        self.gives((EAST, plain((1, 2)), plain((1, 2))), rewayed, DUO, CROWD, 1, plain((1, 2)))
        self.gives(((0, ()),) + CROWD[1:], rewayed, DUO, CROWD, 0, (0, ()))
        self.gives((None, None, plain((2, 1))), rewayed, DUO, (None, None, (2, ())), 2, plain((2, 1)))
        self.gives((EAST, (1, leaves(0, 2)), CROWD[2]), rewayed, DUO, CROWD, 1, (1, leaves(0, 2)))
        self.gives(CROWD, rewayed, DUO, CROWD, 0, EAST)
        self.gives((None,) * 39 + (EAST,), rewayed, DUO, (None,) * 39 + ((0, ()),), 39, EAST)

    def test_trains_that_are_not_there(self):
        for wrong in NO_TRAINS + [3, 40]:
            self.refuses(Unfit, {}, rewayed, DUO, CROWD, wrong, plain((1, 2)))
            self.refuses(Unfit, {}, rewayed, DUO, (), wrong, EAST)
        self.refuses(Unfit, {}, rewayed, DUO, (), 0, EAST)
        self.refuses(Unfit, {}, rewayed, DUO, (EAST, None), 1, EAST)
        self.refuses(Unfit, {}, rewayed, DUO, (None,) * 40, 39, EAST)

    def test_bad_ways(self):
        for value, error in NO_WAYS:
            if error is not None:
                self.refuses(BadWay, {"error": error}, rewayed, DUO, CROWD, 0, value)
        for value in any_values():
            self.refuses(BadWay, {"error": way_error(DUO, value)}, rewayed, DUO, CROWD, 1, value)
        for value in changed_ways(266, 60, (0, ((1, ((0, ()), (2, ((1, ()),)))),))):
            told = way_error(DUO, value)
            if told is not None:
                self.refuses(BadWay, {"error": told}, rewayed, DUO, (EAST,), 0, value)
            elif value[0] != 0:
                self.refuses(Unfit, {}, rewayed, DUO, (EAST,), 0, value)
            else:
                self.gives((value,), rewayed, DUO, (EAST,), 0, value)

    def test_ways_from_another_station(self):
        self.refuses(Unfit, {}, rewayed, DUO, CROWD, 0, plain((1, 0)))
        self.refuses(Unfit, {}, rewayed, DUO, CROWD, 1, EAST)
        self.refuses(Unfit, {}, rewayed, DUO, CROWD, 1, (2, ()))
        self.refuses(Unfit, {}, rewayed, DUO, CROWD, 2, (0, ()))

    def test_refused(self):
        self.refuses(Refused, {"lot": (0, 1)}, rewayed, DUO, CROWD, 2, plain((1, 0)))
        self.refuses(Refused, {"lot": (0, 1)}, rewayed, DUO, (EAST, plain((1, 0)), (1, ())), 2, plain((1, 0)))
        line = ((1, 1, 1), DUO[1])
        for way, lot in ((plain((1, 0)), (0, 1)), (plain((1, 2)), (1, 2)), ((1, leaves(0, 2)), (0, 1, 2))):
            self.refuses(Refused, {"lot": lot}, rewayed, line, (plain((0, 1)), (1, ()), plain((2, 1))), 1, way)
        self.refuses(Refused, {"lot": (0, 1, 2)}, rewayed, line, JAMMED_PAIR + ((2, ()),), 2, plain((2, 1)))
        self.refuses(Refused, {"lot": (2, 3)}, rewayed, PAIRS, JAMMED_PAIR + (plain((2, 3)), plain((3, 2)), (3, ())), 4, plain((3, 2)))
        self.refuses(Refused, {"lot": (0, 1)}, rewayed, DUO, (EAST,) + (plain((1, 0)),) * 2, 0, EAST)

    def test_a_lot_elsewhere_does_not_matter(self):
        now = JAMMED_PAIR + (plain((2, 3)),)
        self.gives(JAMMED_PAIR + ((2, ()),), rewayed, PAIRS, now, 2, (2, ()))
        self.gives((plain((0,)), plain((1, 0)), plain((2, 3))), rewayed, PAIRS, now, 0, (0, ()))

    def test_several_errors_at_once(self):
        self.refuses(Unfit, {}, rewayed, DUO, CROWD, 3, (0, 0))
        self.refuses(Unfit, {}, rewayed, DUO, (None, EAST), 0, None)
        self.refuses(Unfit, {}, rewayed, DUO, CROWD, True, plain((1, 0)))
        self.refuses(BadWay, {"error": ("order", 2)}, rewayed, DUO, CROWD, 0, (1, leaves(2, 0)))
        self.refuses(BadWay, {"error": ("station", 0)}, rewayed, DUO, CROWD, 0, (3, ()))
        self.refuses(BadWay, {"error": ("line", 1)}, rewayed, DUO, CROWD, 1, (2, ((0, ()),)))

    def test_all_kinds_of_standings(self):
        chance = random.Random(267)
        told = {"lot": 0, "way": 0}
        for net, standing in list(crowded(268, 150)) + list(nearly_stuck(269, 100, (1, 2))) + list(some_standings(270, 60)):
            for train, item in enumerate(standing):
                if item is None:
                    self.refuses(Unfit, {}, rewayed, net, standing, train, (0, ()))
                    continue
                way = some_way(chance, net, item[0], chance.choice((0, 1, 1, 2)), 20)[0]
                behind = standing[:train] + (way,) + standing[train + 1:]
                lot = told_closure(net, behind, item[0])
                if lot:
                    self.refuses(Refused, {"lot": lot}, rewayed, net, standing, train, way)
                else:
                    self.gives(behind, rewayed, net, standing, train, way)
                told["lot" if lot else "way"] += 1
        self.assertGreater(min(told.values()), 100, told)


def told_cut(way, line):
    """The walks through way that do not go over line."""
    return tuple([walk for walk in walks(way) if line not in list(zip(walk, walk[1:]))])


class LineShut(OfficeCase):
    def test_line_shut(self):
        left = ((2, 2, 2), ((0, 1), (1, 0), (1, 2), (2, 0), (2, 1)))
        self.gives((left, (plain((0, 1, 2)),)), line_shut, TRI, (EITHER,), 0, 2)
        self.gives((((2, 2, 2), ((0, 1), (0, 2), (1, 0), (2, 0), (2, 1))), (plain((0, 2)),)), line_shut, TRI, (EITHER,), 1, 2)
        self.gives((((2, 2, 2), ((0, 1), (0, 2), (1, 0), (1, 2), (2, 0))), (EITHER,)), line_shut, TRI, (EITHER,), 2, 1)
        self.gives((((2, 2, 2), ((0, 1), (0, 2), (1, 0), (1, 2), (2, 1))), ()), line_shut, TRI, (), 2, 0)
        self.gives((((2, 2, 2), ((0, 1), (0, 2), (1, 2), (2, 0), (2, 1))), (None, (1, ()), (0, ()), None)), line_shut, TRI, (None, (1, ()), (0, ()), None), 1, 0)
        self.gives((((1, 2, 1), ((0, 1), (1, 0), (1, 2))), FACING), line_shut, DUO, FACING, 2, 1)

    def test_towards_the_beginning(self):
        way = (0, ((1, ((2, ((0, ((1, ()),)),)),)), (2, ((0, ()), (1, ((2, ((0, ((1, ((0, ()),)),)),)),))))))
        for line, told in (
            ((1, 0), (0, ((1, ((2, ((0, ((1, ()),)),)),)), (2, ((0, ()),))))), ((1, 2), (0, ((2, ((0, ()),)),))), ((0, 2), plain((0, 1, 2, 0, 1))),
            ((2, 1), (0, ((1, ((2, ((0, ((1, ()),)),)),)), plain((2, 0))))), ((0, 1), plain((0, 2, 0))),
        ):
            behind = (tuple(TRI[0]), tuple([other for other in TRI[1] if other != line]))
            self.gives((behind, (told,)), line_shut, TRI, (way,), *line)
        self.refuses(Needed, {"trains": (0,)}, line_shut, TRI, (way,), 2, 0)

    def test_the_line_may_be_gone_over_more_than_once(self):
        self.refuses(Needed, {"trains": (1,)}, line_shut, TRI, (None, plain((0, 1, 0, 1, 0, 1)), plain((1, 0))), 0, 1)
        way = (1, ((0, ((1, ((0, ((1, ()),)),)), (2, ((0, ((1, ()),)),)))), (2, ())))
        self.gives((((2, 2, 2), TRI[1][1:]), ((1, ((2, ()),)),)), line_shut, TRI, (way,), 0, 1)

    def test_no_lines(self):
        for origin, target in ((1, 1), (0, 0), (0, 3), (3, 0), (-1, 0), (2, -1), (FAR, 0), (0, -FAR), (10, 1)):
            self.refuses(Unfit, {}, line_shut, TRI, (EITHER,), origin, target)
        self.refuses(Unfit, {}, line_shut, DUO, FACING, 0, 2)
        self.refuses(Unfit, {}, line_shut, LOOP, (), 1, 0)
        self.refuses(Unfit, {}, line_shut, ONE, (), 0, 0)
        self.refuses(Unfit, {}, line_shut, TRI, (plain((0, 1)),) * 2 + (plain((1, 0)),) * 2, 0, 0)

    def test_needed(self):
        self.refuses(Needed, {"trains": (0, 2)}, line_shut, TRI, (plain((0, 1, 2)), plain((2, 1)), plain((1, 2))), 1, 2)
        self.refuses(Needed, {"trains": (1,)}, line_shut, TRI, (EITHER, plain((0, 2)), None, (2, ())), 0, 2)
        self.refuses(Needed, {"trains": (39,)}, line_shut, TRI, (None,) * 39 + (EAST,), 1, 2)
        self.refuses(Needed, {"trains": (0,)}, line_shut, TRI, ((0, ((1, ((2, ()),)), (2, ((1, ((2, ()),)),)))),), 1, 2)

    def test_refused(self):
        ones = ((1, 1, 1), TRI[1])
        self.refuses(Refused, {"lot": (0, 1)}, line_shut, ones, ((0, leaves(1, 2)), plain((1, 0))), 0, 2)
        self.refuses(Refused, {"lot": (0, 1, 2)}, line_shut, ones, ((0, leaves(1, 2)), plain((1, 0)), plain((2, 0))), 0, 2)
        self.refuses(Refused, {"lot": (0, 1)}, line_shut, ones, JAMMED_PAIR, 1, 2)
        self.gives((((1, 1, 1), TRI[1][1:]), ((0, ((2, ()),)), plain((1, 0)))), line_shut, ones, ((0, leaves(1, 2)), plain((1, 0))), 0, 1)

    def test_the_greatest_lot(self):
        now = JAMMED_PAIR + ((3, leaves(2, 4)), plain((3, 2)), plain((2, 3)))
        self.refuses(Refused, {"lot": (0, 1, 2, 3)}, line_shut, PAIRS, now, 3, 4)
        self.refuses(Refused, {"lot": (0, 1)}, line_shut, PAIRS, JAMMED_PAIR, 3, 4)

    def test_needed_comes_ahead_of_refused(self):
        self.refuses(Needed, {"trains": (2,)}, line_shut, PAIRS, JAMMED_PAIR + (plain((3, 4)),), 3, 4)
        self.refuses(Unfit, {}, line_shut, PAIRS, JAMMED_PAIR + (plain((3, 4)),), 4, 2)

    def test_all_kinds_of_standings(self):
        chance = random.Random(271)
        told = {"needed": 0, "lot": 0, "shut": 0}
        for net, standing in list(crowded(272, 120)) + list(nearly_stuck(273, 100, (1, 2))) + list(some_standings(274, 100)):
            for line in chance.sample(net[1], min(6, len(net[1]))):
                left = [item and told_cut(item, line) for item in standing]
                needing = tuple([train for train, item in enumerate(left) if item == ()])
                net_left = (net[0], tuple([other for other in net[1] if other != line]))
                if needing:
                    self.refuses(Needed, {"trains": needing}, line_shut, net, standing, *line)
                    told["needed"] += 1
                    continue
                try:
                    behind = line_shut(net, standing, *line)
                except Refused as error:
                    now = tuple([item and of_walks(item) for item in left])
                    self.assertEqual(error.lot, told_greatest(net_left, now))
                    self.assertNotEqual(error.lot, ())
                    told["lot"] += 1
                    continue
                told["shut"] += 1
                self.assertEqual(behind[0], net_left)
                self.assertEqual([item and walks(item) for item in behind[1]], left)
                self.assertIsNone(standing_error(net_left, behind[1]))
                self.assertEqual(told_greatest(net_left, behind[1]), ())
                self.gives(behind, line_shut, net, standing, *line)
        self.assertGreater(min(told.values()), 30, told)


def of_walks(told):
    """The way with these walks, which all begin at one station."""
    firsts = sorted({walk[1] for walk in told if len(walk) > 1})
    return (told[0][0], tuple([of_walks([walk[1:] for walk in told if walk[1] == first]) for first in firsts]))


class TrackTaken(OfficeCase):
    def test_track_taken(self):
        self.gives(((1, 1, 1), DUO[1]), track_taken, DUO, (EAST,), 1)
        self.gives(((1, 1, 1), DUO[1]), track_taken, DUO, (EAST, (1, ())), 1)
        self.gives(((4, 3), ()), track_taken, ((4, 4), ()), (None,) * 40, 1)
        self.gives(((3, 4), ()), track_taken, ((4, 4), ()), ((0, ()),) * 3, 0)
        self.gives(((1,), ()), track_taken, ((2,), ()), (), 0)
        self.gives((TEN[0][:9] + (3,), TEN[1]), track_taken, TEN, (), 9)

    def test_unfit(self):
        for wrong in (3, 10, -1, -2, FAR, -FAR):
            self.refuses(Unfit, {}, track_taken, ((2, 2, 2), DUO[1]), (), wrong)
        for net in (DUO, ONE, LOOP):
            for station in range(len(net[0])):
                if net[0][station] == 1:
                    self.refuses(Unfit, {}, track_taken, net, (), station)
        self.refuses(Unfit, {}, track_taken, DUO, FACING, 2)
        self.refuses(Unfit, {}, track_taken, DUO, FACING, 0)

    def test_full(self):
        self.refuses(Full, {"station": 1}, track_taken, DUO, CROWD, 1)
        self.refuses(Full, {"station": 0}, track_taken, ((4,), ()), ((0, ()),) * 4, 0)
        self.refuses(Full, {"station": 1}, track_taken, DUO, (EAST,) + (plain((1, 0)),) * 2, 1)

    def test_refused(self):
        self.refuses(Refused, {"lot": (0, 1)}, track_taken, DUO, FACING, 1)
        self.gives(((1, 1, 1), DUO[1]), track_taken, DUO, (EAST, plain((1, 2))), 1)
        self.refuses(Refused, {"lot": (0, 1, 2)}, track_taken, DUO, (EAST, (1, leaves(0, 2)), plain((2, 1))), 1)
        self.refuses(Refused, {"lot": (0, 1, 2)}, track_taken, DUO, FACING + (plain((2, 1)),), 1)

    def test_the_greatest_lot(self):
        self.refuses(Refused, {"lot": (0, 1)}, track_taken, PAIRS, JAMMED_PAIR, 3)
        self.refuses(Refused, {"lot": (0, 1, 2, 3)}, track_taken, PAIRS, JAMMED_PAIR + (plain((2, 3)), plain((3, 2))), 3)

    def test_several_errors_at_once(self):
        self.refuses(Unfit, {}, track_taken, DUO, (EAST,) + (plain((1, 0)),) * 2, 0)
        self.refuses(Full, {"station": 3}, track_taken, PAIRS, JAMMED_PAIR + ((3, ()), (3, ())), 3)

    def test_the_net_may_not_be_gated_then(self):
        self.assertTrue(is_gated(DUO))
        self.assertFalse(is_gated(track_taken(DUO, (EAST,), 1)))
        self.gives(((2, 1, 2), BOTH[1]), track_taken, ((2, 2, 2), BOTH[1]), (), 1)

    def test_all_kinds_of_standings(self):
        told = {"unfit": 0, "full": 0, "lot": 0, "net": 0}
        for net, standing in list(crowded(275, 150)) + list(nearly_stuck(276, 100, (1, 2))) + list(free_standings(277, 100, (1, 2))):
            for station, many in enumerate(net[0]):
                left = (net[0][:station] + (many - 1,) + net[0][station + 1:], net[1])
                there = len([item for item in standing if item is not None and item[0] == station])
                if many == 1:
                    word = "unfit"
                    self.refuses(Unfit, {}, track_taken, net, standing, station)
                elif there == many:
                    word = "full"
                    self.refuses(Full, {"station": station}, track_taken, net, standing, station)
                elif told_greatest(left, standing):
                    word = "lot"
                    self.refuses(Refused, {"lot": told_greatest(left, standing)}, track_taken, net, standing, station)
                else:
                    word = "net"
                    self.gives(left, track_taken, net, standing, station)
                told[word] += 1
        self.assertGreater(min(told.values()), 30, told)


def told_past(net, standing, held):
    """What home_past raises, as its class and its field; None if nothing; held is as it has to be."""
    tracks = list(net[0])
    for train in held:
        tracks[standing[train][0]] -= 1
    if 0 in tracks:
        return Unfit, None
    lesser = (tuple(tracks), net[1])
    if told_ungated(lesser):
        return Ungated, told_ungated(lesser)[0]
    others = tuple([None if train in held else item for train, item in enumerate(standing)])
    if told_greatest(lesser, others):
        return Stuck, told_greatest(lesser, others)
    return None, None


def gets_past(net, standing, held, most):
    """Whether some run leads all others off in which none of held moves; None if more standings can be come to."""
    seen, left = {standing}, [standing]
    while left:
        now = left.pop()
        for move in told_moves(net, now):
            behind = told_behind(now, move)
            if move[0] not in held and behind not in seen:
                seen.add(behind)
                left.append(behind)
        if len(seen) > most:
            return None
    return any(all(item is None or train in held for train, item in enumerate(now)) for now in seen)


class HomePast(OfficeCase):
    def is_past(self, net, standing, held):
        run = self.got(home_past, net, standing, held)
        self.assertIsNone(run_error(net, standing, run))
        self.assertEqual([train for train, _ in run if train in held], [])
        behind = tuple([item if train in held else None for train, item in enumerate(standing)])
        self.assertEqual(led(net, standing, run), behind)

    def test_home_past(self):
        self.gives(((1, 1), (1, 2), (1, None)), home_past, CIRCLE, (plain((1,)), EAST), (0,))
        self.gives((), home_past, CIRCLE, (None, None), ())
        self.gives((), home_past, CIRCLE, (), ())
        self.gives((), home_past, CIRCLE, (plain((1,)),), (0,))
        self.is_past(((2, 3, 1), LOOP[1]), (EAST, plain((1, 2, 0)), plain((2, 0, 1)), plain((0, 1)), plain((1, 2))), (0, 1))
        self.is_past(((2, 3, 1), LOOP[1]), (EAST, plain((1, 2, 0)), plain((2, 0, 1)), plain((0, 1)), plain((1, 2))), (1, 4))
        self.is_past(((2, 3, 1), LOOP[1]), (EAST, plain((1, 2, 0)), plain((2, 0, 1)), plain((0, 1)), plain((1, 2))), ())
        forty = tuple([plain(tuple([(station + step) % 10 for step in range(13)])) for station in range(10) for _ in range(4)])
        ring = ring_net((4,) * 10)
        self.is_past(ring, forty[:3] + (None,) + forty[4:], (0, 1, 4, 5, 6, 36, 37, 38))
        self.is_past(((2, 2), ((0, 1), (1, 0))), (plain((0, 1)), None, plain((1, 0))), (2,))

    def test_a_lot_that_held_trains_would_break(self):
        now = (plain((1,)), plain((1, 2)), plain((2, 0)), EAST)
        self.refuses(Stuck, {"lot": (0, 1, 2)}, home_past, CIRCLE, now, (0,))
        self.is_past(CIRCLE, now, ())
        self.refuses(Stuck, {"lot": (0, 1)}, home_past, ((1, 2), ((0, 1), (1, 0))), (plain((0, 1)), plain((1, 0)), (1, ())), (2,))

    def test_a_lot_in_which_a_held_train_stands(self):
        both_ways = ((2, 2), ((0, 1), (1, 0)))
        jam = (plain((0, 1)),) * 2 + (plain((1, 0)),) * 2
        self.refuses(Stuck, {"lot": (0, 1)}, home_past, both_ways, jam, ())
        self.refuses(Stuck, {"lot": (0, 1)}, home_past, both_ways, jam, (0, 2))
        self.refuses(Stuck, {"lot": (0, 1)}, home_past, both_ways, jam, (1, 3))

    def test_the_greatest_lot(self):
        now = JAMMED_PAIR + (plain((2, 3)), plain((3, 2)), (3, ()))
        apart = (PAIRS[0], PAIRS[1][:4])
        self.refuses(Stuck, {"lot": (0, 1, 2, 3)}, home_past, apart, now, (4,))
        self.refuses(Stuck, {"lot": (0, 1)}, home_past, apart, now, ())
        self.refuses(Stuck, {"lot": (0, 1)}, home_past, apart, now, (3,))

    def test_no_held_trains(self):
        now = (plain((1,)), EAST, None, plain((1, 2)))
        net = ((2, 4, 2), LOOP[1])
        self.is_past(net, now, (0, 1, 3))
        self.is_past(net, now, (0, 3))
        for value in any_values():
            if value not in ((), (0,)) or not isinstance(value, tuple):
                self.refuses(Unfit, {}, home_past, net, now, value)
        for value in ((1, 0), (0, 0), (0, 2), (2,), (4,), (0, 4), (-1,), (-1, 0), [0], [], (True,), (0, True), (False,), ("0",), (None,), (0, None), (FAR,), (-FAR, 0), {0: 0}, "0",
                      0, None, ((0,),), (3, 0, 1), (0, 1, 1), (0, 3, 1), ([0],), ((0, 1), 3)):
            self.refuses(Unfit, {}, home_past, net, now, value)
        for wrong in integers_not():
            self.refuses(Unfit, {}, home_past, net, now, (wrong,))
            self.refuses(Unfit, {}, home_past, net, now, (0, wrong))
        self.refuses(Unfit, {}, home_past, net, (), (0,))

    def test_all_tracks_held(self):
        self.refuses(Unfit, {}, home_past, CIRCLE, (plain((1,)), EAST), (1,))
        self.refuses(Unfit, {}, home_past, CIRCLE, (plain((1,)), plain((1, 2))), (0, 1))
        self.refuses(Unfit, {}, home_past, ((4, 1), ()), ((0, ()),) * 4, (0, 1, 2, 3))
        self.gives(((3, None),), home_past, ((4, 1), ()), ((0, ()),) * 4, (0, 1, 2))
        self.refuses(Unfit, {}, home_past, ONE, ((0, ()),), (0,))

    def test_ungated(self):
        self.refuses(Ungated, {"station": 1}, home_past, DUO, (plain((1,)), EAST), (0,))
        self.refuses(Ungated, {"station": 1}, home_past, BOTH, (), ())
        self.refuses(Ungated, {"station": 1}, home_past, ((2, 2, 2), BOTH[1]), (EAST, (1, ())), (1,))
        rows = line_net((2, 2, 1, 2, 2))
        self.refuses(Ungated, {"station": 2}, home_past, rows, (plain((3, 4)), (1, ())), (0,))
        self.refuses(Ungated, {"station": 1}, home_past, rows, (plain((3, 4)), (1, ())), (0, 1))

    def test_several_errors_at_once(self):
        self.refuses(Unfit, {}, home_past, BOTH, ((1, ()),), (0,))
        self.refuses(Unfit, {}, home_past, BOTH, (), (0,))
        self.refuses(Unfit, {}, home_past, BOTH, (None, (0, ())), (0, 1))
        self.refuses(Ungated, {"station": 1}, home_past, BOTH, (plain((0, 1)),) * 2 + (plain((1, 0)),), ())
        self.refuses(Unfit, {}, home_past, DUO, (plain((0, 1)), plain((1, 0)), plain((1, 0))), (1, 2))

    def test_all_kinds_of_standings(self):
        chance = random.Random(281)
        told = {Unfit: 0, Ungated: 0, Stuck: 0, None: 0}
        cases = list(crowded(282, 60)) + list(nearly_stuck(283, 80, (1, 2))) + list(free_standings(284, 150, (1, 2, 3)))
        for tracks, lines in nets_of_all_kinds(285, 60):
            net = (tuple(min(4, many + 2) for many in tracks), lines)
            cases.append((net, some_standing(chance, net, 0.7, (1, 2))))
            cases.append((net, some_standing(chance, net, 1, (1,))))
        for net, standing in cases:
            trains = [train for train, item in enumerate(standing) if item is not None]
            held = tuple(sorted(chance.sample(trains, min(len(trains), chance.choice((0, 1, 1, 2, 3))))))
            error, field = told_past(net, standing, held)
            told[error] += 1
            if error is None:
                self.is_past(net, standing, held)
            else:
                self.refuses(error, {} if error is Unfit else {"station" if error is Ungated else "lot": field}, home_past, net, standing, held)
        self.assertGreater(min(told.values()), 20, told)


class WhatHolds(OfficeCase):
    def test_what_is_returned_has_no_lot_and_what_is_refused_does_not_get_home(self):
        chance = random.Random(291)
        refused = 0
        for net, standing in free_standings(292, 120, (1, 2, 3)):
            standing = standing[:39]
            station = chance.randrange(len(net[0]))
            way = some_way(chance, net, station, chance.choice((0, 1, 2)), 20)[0]
            there = [train for train, item in enumerate(standing) if item is not None and item[0] == station]
            behind = standing + (way,)
            if len(there) < net[0][station]:
                refused += self.is_refused_exactly_with_a_lot(net, behind, let_in, net, standing, way)
            if there:
                behind = standing[:there[0]] + (way,) + standing[there[0] + 1:]
                refused += self.is_refused_exactly_with_a_lot(net, behind, rewayed, net, standing, there[0], way)
            if net[1]:
                origin, target = chance.choice(net[1])
                try:
                    left, behind = line_shut(net, standing, origin, target)
                    self.assertTrue(is_gated(left))
                    self.assertEqual(told_greatest(left, behind), ())
                except (Needed, Refused):
                    pass
        self.assertGreater(refused, 10)

    def is_refused_exactly_with_a_lot(self, net, behind, function, *arguments):
        lot = told_greatest(net, behind)
        if lot:
            with self.assertRaises(Refused) as caught:
                function(*arguments)
            self.assertLessEqual(set(caught.exception.lot), set(lot))
            return 1
        self.assertEqual(function(*arguments), behind)
        return 0

    def test_a_shut_line_leaves_gates(self):
        for net in list(some_nets(293, 60)) + list(nets_of_all_kinds(294, 60)):
            if not told_ungated(net):
                for origin, target in net[1][:10]:
                    left, _ = line_shut(net, (), origin, target)
                    self.assertIsNone(net_error(left))
                    self.assertEqual(told_ungated(left), ())

    def test_past_held_trains_exactly_if_some_run_leads_the_others_off(self):
        chance = random.Random(295)
        told = {True: 0, False: 0}
        cases = list(free_standings(296, 150, (1, 2, 2))) + list(nearly_stuck(297, 150, (1, 2))) + list(crowded(298, 100))
        for net, standing in cases:
            trains = [train for train, item in enumerate(standing) if item is not None]
            held = tuple(sorted(chance.sample(trains, min(len(trains), chance.choice((0, 1, 2))))))
            error, _ = told_past(net, standing, held)
            past = gets_past(net, standing, held, 500) if error in (None, Stuck) else None
            if past is not None:
                told[past] += 1
                if past:
                    self.assertIsNone(run_error(net, without(standing, held), home_past(net, standing, held)))
                else:
                    self.assertRaises(Stuck, home_past, net, standing, held)
        self.assertGreater(min(told.values()), 20, told)


if __name__ == "__main__":
    unittest.main()

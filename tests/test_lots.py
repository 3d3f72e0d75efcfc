"""Closed lots: [A3], [D1] to [D4], and of [D5] what holds of them."""

import itertools
import random
import unittest

from support import BOTH, LOOP, TEN, OfficeCase, all_lots, any_values, crowded, integers_not, some_standings

from singlegates.errors import BadMove
from singlegates.lots import brought, closure, greatest_lot, is_lot, least_lots, lifted, stuck
from singlegates.makers import eight_net, line_net, ring_net
from singlegates.moving import moved, moves
from singlegates.standings import standing_error, wants, without
from singlegates.ways import plain

LINE = ((1, 2, 1), ((0, 1), (1, 0), (1, 2), (2, 1)))
TIGHT = (plain((0, 1)), plain((1, 0)), plain((1, 0)), plain((2, 1, 0)))
NEAR = (plain((0, 1)), plain((1, 0)), plain((2, 1, 0)))
JAMMED_LOOP = (plain((0, 1)), plain((1, 2)), plain((2, 0)))
STAR = ((1, 1, 1), ((0, 1), (0, 2), (1, 0), (2, 0)))
EITHER = (0, ((1, ()), (2, ())))
ROWS = ((1, 1, 1, 1), ((0, 1), (1, 0), (2, 3), (3, 2)))
TWO_JAMS = (plain((3, 2)), plain((0, 1)), plain((2, 3)), None, plain((1, 0)))
PLAIN_TEN = ((1,) * 10, TEN[1])
FIVE_JAMS = tuple([plain((station, station ^ 1)) for station in range(10)])
ONE = ((1,), ())
# Two least lots, (0, 1) and (3, 4), and between them 2, whose train wants into both of them: it is in the greatest one.
SHARED = (((1, 1, 1, 1, 1), ((0, 1), (1, 0), (2, 1), (2, 3), (3, 4), (4, 3))),
          (plain((0, 1)), plain((1, 0)), (2, ((1, ()), (3, ()))), plain((3, 4)), plain((4, 3))))


class IsLot(OfficeCase):
    def test_lots(self):
        for value in ((0, 1), (0, 1, 2)):
            self.gives(True, is_lot, LINE, TIGHT, value)
        for value in ((0,), (1,), (2,), (1, 2), (0, 2), ()):
            self.gives(False, is_lot, LINE, TIGHT, value)
        self.gives(True, is_lot, LOOP, JAMMED_LOOP, (0, 1, 2))
        for value in ((0, 1), (2, 3), (0, 1, 2, 3)):
            self.gives(True, is_lot, ROWS, TWO_JAMS, value)
        for value in ((0, 1, 2), (0, 1, 3), (1, 2, 3), (0, 2), (1, 3), (0, 3), (1, 2)):
            self.gives(False, is_lot, ROWS, TWO_JAMS, value)
        self.gives(False, is_lot, ONE, ((0, ()),), (0,))
        self.gives(False, is_lot, ONE, (), (0,))

    def test_stations_turned_about_and_twice(self):
        for value in ((1, 0), (0, 0, 1), (0, 1, 1), (0, 2, 1), (2, 1, 0), (1, 0, 2), (0, 1, 2, 2), (0, 1, 0, 1)):
            self.gives(False, is_lot, LINE, TIGHT, value)

    def test_stations_beyond(self):
        for value in ((0, 1, 3), (-1, 0, 1), (0, 1, 2, 3), (0, 1, 10 ** 399), (-10 ** 399, 0, 1), (3,), (-2, -1), (-3, -2)):
            self.gives(False, is_lot, LINE, TIGHT, value)

    def test_one_more_and_one_fewer(self):
        self.gives(False, is_lot, LOOP, JAMMED_LOOP, (0, 1))
        self.gives(False, is_lot, LOOP, JAMMED_LOOP, (1, 2))
        self.gives(False, is_lot, LINE, NEAR, (0, 1))
        self.gives(False, is_lot, LINE, (plain((0, 1)), plain((1, 0)), plain((1, 0)), (2, ())), (0, 1, 2))
        self.gives(True, is_lot, LINE, (plain((0, 1)), plain((1, 0)), plain((1, 0)), (2, ())), (0, 1))
        self.gives(False, is_lot, LINE, (plain((0, 1)), plain((1, 0)), plain((1, 2)), (2, ())), (0, 1))

    def test_values(self):
        for value in any_values():
            self.gives(False, is_lot, LINE, TIGHT, value)
        for wrong in integers_not():
            for value in (wrong, (wrong,), (0, wrong), (wrong, 1), (0, 1, wrong), (wrong, 1, 2), (0, wrong, 2)):
                self.gives(False, is_lot, LINE, TIGHT, value)
        for value in ([0, 1], {0: 0, 1: 1}, "01", ((0, 1),), ([0], 1), (0, 1, ()), (0, True), (False, 1), (0, 1, None)):
            self.gives(False, is_lot, LINE, TIGHT, value)

    def test_choices_bar_a_lot(self):
        self.gives(False, is_lot, STAR, (EITHER, plain((1, 0))), (0, 1))
        self.gives(False, is_lot, STAR, (EITHER, plain((1, 0))), (0, 1, 2))
        self.gives(False, is_lot, STAR, (EITHER, plain((1, 0)), (2, ())), (0, 1, 2))
        self.gives(False, is_lot, STAR, (EITHER, plain((1, 0)), plain((2, 0))), (0, 1))
        self.gives(True, is_lot, STAR, (EITHER, plain((1, 0)), plain((2, 0))), (0, 1, 2))

    def test_all_tuples_of_stations(self):
        for net, standing in crowded(101, 60):
            lots = all_lots(net, standing)
            for many in range(len(net[0]) + 1):
                for value in itertools.combinations(range(len(net[0])), many):
                    self.assertEqual(is_lot(net, standing, value), value in lots, (net, standing, value))


class Closure(OfficeCase):
    def test_closures(self):
        for station, lot in enumerate(((0, 1), (0, 1), (0, 1, 2))):
            self.gives(lot, closure, LINE, TIGHT, station)
            self.gives((), closure, LINE, NEAR, station)
            self.gives((0, 1, 2), closure, LOOP, JAMMED_LOOP, station)
            self.gives((), closure, LOOP, JAMMED_LOOP[:2] + ((2, ()),), station)
            self.gives((), closure, LOOP, JAMMED_LOOP[:2] + (None,), station)
            self.gives((), closure, LOOP, (), station)
        self.gives((), closure, ONE, ((0, ()),), 0)
        for station, lot in enumerate(((0, 1), (0, 1), (0, 1, 2, 3, 4), (3, 4), (3, 4))):
            self.gives(lot, closure, *SHARED, station)
        for station in range(10):
            self.gives((station & ~1, station | 1), closure, PLAIN_TEN, FIVE_JAMS, station)

    def test_choices(self):
        for station in range(3):
            self.gives((), closure, STAR, (EITHER, plain((1, 0))), station)
            self.gives((0, 1, 2), closure, STAR, (EITHER, plain((1, 0)), plain((2, 0))), station)

    def test_least_lot_that_holds_the_station(self):
        for net, standing in crowded(102, 300):
            lots = all_lots(net, standing)
            for station in range(len(net[0])):
                holding = [lot for lot in lots if station in lot]
                told = min(holding, key=len, default=())
                self.assertEqual(closure(net, standing, station), told, (net, standing))
                self.assertEqual([lot for lot in holding if len(lot) == len(told)], holding and [told])


class Lots(OfficeCase):
    def gives_all(self, greatest, least, trains, net, standing):
        self.gives(greatest, greatest_lot, net, standing)
        self.gives(least, least_lots, net, standing)
        self.gives(trains, stuck, net, standing)
        self.is_lifted(least, net, standing)

    def is_lifted(self, least, net, standing):
        trains = self.got(lifted, net, standing)
        self.assertEqual(type(trains), tuple)
        self.assertEqual(len(trains), len(least))
        self.assertEqual(trains, tuple(sorted(set(trains))))
        for lot in least:
            self.assertEqual(len([train for train in trains if standing[train][0] in lot]), 1)
        self.assertEqual(all_lots(net, without(standing, trains)), [])

    def test_told_ones(self):
        self.gives_all((0, 1, 2), ((0, 1),), (0, 1, 2, 3), LINE, TIGHT)
        self.gives_all((), (), (), LINE, NEAR)
        self.gives_all((0, 1, 2, 3), ((0, 1), (2, 3)), (0, 1, 2, 4), ROWS, TWO_JAMS)
        self.gives_all((0, 1, 2), ((0, 1, 2),), (0, 1, 2), LOOP, JAMMED_LOOP)
        self.gives_all((0, 1, 2, 3, 4), ((0, 1), (3, 4)), (0, 1, 2, 3, 4), *SHARED)

    def test_edges(self):
        for net, standing in ((ONE, ()), (ONE, ((0, ()),)), (ONE, (None,) * 40), (LOOP, ()), (TEN, (None,)), (STAR, (EITHER, plain((1, 0))))):
            self.gives_all((), (), (), net, standing)
        five = ((0, 1), (2, 3), (4, 5), (6, 7), (8, 9))
        self.gives_all(tuple(range(10)), five, tuple(range(10)), PLAIN_TEN, FIVE_JAMS)
        self.gives_all((0, 1, 4, 5, 6, 7, 8, 9), five[:1] + five[2:], (0, 1, 4, 5, 6, 7, 8, 9), PLAIN_TEN, without(FIVE_JAMS, (2,)))
        forty = tuple([plain((station, (station + 1) % 10)) for station in range(10) for _ in range(4)])
        ten = ring_net((4,) * 10)
        self.gives_all(tuple(range(10)), (tuple(range(10)),), tuple(range(40)), ten, forty)
        for train in (0, 17, 39):
            self.gives_all((), (), (), ten, without(forty, (train,)))

    def test_trains_beside_the_lot_are_not_stuck(self):
        net = line_net((1, 1, 2, 1))
        jam = (plain((0, 1)), plain((2, 1)), plain((1, 0)), (2, ()), None, plain((3, 2)))
        self.gives_all((0, 1), ((0, 1),), (0, 2), net, jam)
        self.gives_all((0, 1, 2, 3), ((0, 1),), (0, 1, 2, 3, 5), net, jam[:3] + (plain((2, 1)),) + jam[4:])

    def test_lots_that_share_a_station(self):
        net = eight_net((1,) * 5, 2)
        standing = (plain((1, 2, 0)), plain((2, 0)), plain((0, 3)), plain((3, 4, 0)), plain((4, 0)))
        self.gives_all((0, 1, 2, 3, 4), ((0, 3, 4),), (0, 1, 2, 3, 4), net, standing)

    def test_all_agree_with_all_lots(self):
        with_lots = several = 0
        for net, standing in crowded(103, 300):
            lots = all_lots(net, standing)
            greatest = tuple(sorted({station for lot in lots for station in lot}))
            least = tuple(sorted([lot for lot in lots if not any(set(other) < set(lot) for other in lots)]))
            self.assertEqual(greatest_lot(net, standing), greatest, (net, standing))
            self.assertEqual(least_lots(net, standing), least, (net, standing))
            told = [train for train, item in enumerate(standing) if item is not None and item[0] in greatest]
            self.assertEqual(stuck(net, standing), tuple(told))
            self.is_lifted(least, net, standing)
            with_lots += bool(lots)
            several += len(least) > 1
        self.assertGreater(with_lots, 100)
        self.assertGreater(several, 20)

    def test_none_fewer_are_lifted(self):
        tried = 0
        for net, standing in crowded(104, 150):
            fewest = lifted(net, standing)
            if len(standing) > 12 or len(fewest) > 3 or not fewest:
                continue
            tried += 1
            for trains in itertools.combinations(range(len(standing)), len(fewest) - 1):
                self.assertNotEqual(all_lots(net, without(standing, trains)), [])
        self.assertGreater(tried, 30)

    def test_trains_at_the_jam_hold_it_up_alone(self):
        self.assertEqual([train for train in range(4) if greatest_lot(LINE, without(TIGHT, (train,))) == ()], [0, 1, 2])
        self.assertIn(lifted(LINE, TIGHT), ((0,), (1,), (2,)))


class Brought(OfficeCase):
    def test_brought(self):
        self.gives((0, 1), brought, LINE, NEAR, (2, 1))
        self.gives((), brought, LINE, NEAR, (0, 1))
        self.gives((), brought, LINE, (plain((0, 1)), (1, ())), (1, None))
        self.gives((), brought, STAR, (EITHER,), (0, 1))
        self.gives((0, 2), brought, STAR, (plain((1, 0, 2)), plain((2, 0))), (0, 0))
        self.gives((), brought, STAR, (plain((1, 0, 2)), plain((2, 0))), (1, 0))
        self.gives((), brought, STAR, ((1, ((0, ((1, ()), (2, ()))),)), plain((2, 0))), (0, 0))

    def test_a_train_that_leaves_brings_none(self):
        jam = (plain((0, 1)), plain((1, 0)), plain((1, 0)), (2, ()))
        self.gives((), brought, LINE, jam, (3, None))
        self.gives((), brought, ONE, ((0, ()),), (0, None))

    def test_the_least_one_that_holds_the_station(self):
        net = ((1, 1, 1, 1), ((0, 1), (1, 0), (2, 1), (3, 2)))
        standing = (plain((0, 1)), plain((1, 0)), plain((3, 2, 1)))
        self.gives((0, 1, 2), brought, net, standing, (2, 2))
        self.gives((), brought, net, (plain((0, 1)), plain((1, 0)), plain((3, 2))), (2, 2))

    def test_bad_moves(self):
        for error, standing, value in (
            ("full", NEAR, (1, 0)), ("form", NEAR, (3, 1)), ("form", NEAR, [0, 1]), ("form", NEAR, (True, 1)), ("form", NEAR, (0, True)),
            ("way", NEAR, (0, None)), ("way", NEAR, (0, 2)), ("gone", (None,), (0, None)), ("gone", (None,), (0, 1)), ("form", (), None),
        ):
            self.refuses(BadMove, {"error": error}, brought, LINE, standing, value)
        for value in any_values():
            if value != (0, 0):
                self.refuses(BadMove, {"error": "form"}, brought, LINE, NEAR, value)
        self.refuses(BadMove, {"error": "way"}, brought, LINE, NEAR, (0, 0))

    def test_all_moves(self):
        chance = random.Random(105)
        brings = 0
        for net, standing in list(some_standings(106, 50)) + list(crowded(112, 250)):
            now = without(standing, lifted(net, standing))
            while moves(net, now) and chance.random() < 0.9:
                before = all_lots(net, now)
                for train, target in moves(net, now):
                    lots = all_lots(net, moved(net, now, (train, target)))
                    holding = [lot for lot in lots if target in lot]
                    lot = brought(net, now, (train, target))
                    self.assertEqual(lot, min(holding, key=len, default=()), (net, now, train, target))
                    brings += lot != ()
                    # What holds: a move brings no lot but with its station, and none has the station that it leaves.
                    self.assertEqual([lot for lot in lots if lot not in before], [lot for lot in holding if lot not in before])
                    self.assertFalse(any(now[train][0] in lot for lot in lots))
                    if not before:
                        self.assertEqual(bool(lots), lot != ())
                now = moved(net, now, chance.choice(moves(net, now)))
        self.assertGreater(brings, 50)


class WhatHolds(OfficeCase):
    def test_lots_joined_and_shared(self):
        for net, standing in crowded(107, 60):
            lots = all_lots(net, standing)[:40]
            for one, other in itertools.combinations(lots, 2):
                self.assertTrue(is_lot(net, standing, tuple(sorted(set(one) | set(other)))))
                both = tuple(sorted(set(one) & set(other)))
                self.assertEqual(is_lot(net, standing, both), both != ())

    def test_least_lots(self):
        for net, standing in crowded(108, 200):
            least = least_lots(net, standing)
            stations = [station for lot in least for station in lot]
            self.assertEqual(len(stations), len(set(stations)))
            for lot in all_lots(net, standing):
                self.assertTrue(any(set(part) <= set(lot) for part in least))
            for lot in least:
                for station in lot:
                    come = {station}
                    for _ in lot:
                        come |= {target for train, item in enumerate(standing) if item and item[0] in come for target in wants(standing, train)}
                    self.assertEqual(come, set(lot))

    def test_trains_of_a_lot_never_move(self):
        chance = random.Random(109)
        for net, standing in crowded(110, 150):
            held = stuck(net, standing)
            now = standing
            while moves(net, now):
                now = moved(net, now, chance.choice(moves(net, now)))
                self.assertEqual([now[train] for train in held], [standing[train] for train in held])
                self.assertLessEqual(set(held), set(stuck(net, now)))
            left = [train for train, item in enumerate(now) if item is not None]
            self.assertEqual(left == [], stuck(net, now) == ())

    def test_standings_handed_in_are_such(self):
        for net, standing in crowded(111, 100):
            self.assertIsNone(standing_error(net, standing))
        self.assertIsNone(standing_error(BOTH, NEAR[:2]))


if __name__ == "__main__":
    unittest.main()

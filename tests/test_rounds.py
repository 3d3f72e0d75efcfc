"""Rounds, parts and reach: [A3], [E1], [E2], and of [E5] what holds of them."""

import itertools
import random
import unittest

from support import (
    BOTH, LOOP, TEN, OfficeCase, all_lots, all_rounds, any_values, comes, crowded, integers_not, nets_of_all_kinds, small_nets,
)

from singlegates.makers import eight_net, line_net, ring_net, star_net
from singlegates.rounds import fewest_stuck, is_round, lightest_round, parts, reach
from singlegates.standings import standing_error

ROW, EIGHT, RING = line_net((2, 1, 2)), eight_net((1, 1, 2, 1, 1), 2), ring_net((1, 3, 1))
DOWN = ((1, 1, 2), ((0, 1), (1, 2), (2, 1)))
ONE = ((3,), ())
# One comes down from each station to each greater one, and never back.
SLOPE = ((1,) * 10, tuple([(i, j) for i in range(10) for j in range(i + 1, 10)]))
PIECES = ((1, 2, 3, 4, 1, 1), ((0, 3), (1, 2), (2, 1), (3, 0), (3, 1), (4, 1)))


def told_round(net, value):
    """Whether value is a round, by the document's words."""
    if type(value) is not tuple or len(value) < 2:
        return False
    if any(type(item) is not int or item not in range(len(net[0])) for item in value):
        return False
    return len(set(value)) == len(value) and all(line in net[1] for line in zip(value, value[1:] + value[:1]))


class IsRound(OfficeCase):
    def test_rounds(self):
        for net, value in (
            (ROW, (0, 1)), (ROW, (1, 0)), (ROW, (1, 2)), (EIGHT, (0, 1, 2)), (EIGHT, (2, 0, 1)), (EIGHT, (1, 2, 0)), (EIGHT, (4, 0, 3)),
            (LOOP, (0, 1, 2)), (LOOP, (2, 0, 1)), (DOWN, (1, 2)), (DOWN, (2, 1)), (PIECES, (0, 3)), (ring_net((1,) * 10), tuple(range(10))),
            (TEN, tuple(range(10))), (TEN, tuple(range(9, -1, -1))), (TEN, (3, 9, 4)), (TEN, (5, 0)),
        ):
            self.gives(True, is_round, net, value)

    def test_none(self):
        for net, value in (
            (ROW, (0, 1, 2)), (ROW, (0,)), (ROW, ()), (ROW, (0, 2)), (ROW, (0, 1, 2, 1)), (ROW, (0, 1, 0, 1)), (ROW, (1, 1)), (ROW, (0, 1, 0)),
            (EIGHT, (0, 1)), (EIGHT, (1, 0, 2)), (EIGHT, (0, 1, 2, 0, 3, 4)), (EIGHT, (0, 2, 1)), (LOOP, (0, 2, 1)), (LOOP, (0, 1, 2, 0)),
            (LOOP, (0, 1)), (DOWN, (0, 1)), (DOWN, (0, 1, 2)), (ONE, (0,)), (ONE, (0, 0)), (ONE, ()), (TEN, tuple(range(10)) + (0,)),
            (SLOPE, tuple(range(10))), (SLOPE, (0, 9)), (((1, 1), ((0, 1),)), (0, 1)), (((1, 1), ((0, 1),)), (1, 0)),
            (TEN, (0,)), (TEN, (0, 1, 2, 1)), (TEN, (9, 9)),
        ):
            self.gives(False, is_round, net, value)

    def test_values(self):
        for value in any_values():
            for net in (ROW, LOOP, TEN, ONE):
                self.gives(False, is_round, net, value)
        for wrong in integers_not() + [-1, -2, 3, 10, 10 ** 399, -10 ** 399]:
            for value in ((wrong, 1), (1, wrong), (0, wrong), (wrong, 0), (wrong,), (0, 1, wrong), (wrong, wrong)):
                self.gives(False, is_round, ROW, value)
        for value in ([0, 1], {0: 1, 1: 0}, "01", ((0, 1),), ([0], [1]), (0, True), (False, 1), (True, 0), (-1, -2), ((0, 1), (1, 0))):
            self.gives(False, is_round, ROW, value)

    def test_all_tuples(self):
        for net in small_nets():
            for many in range(5):
                for value in itertools.product(range(-1, len(net[0]) + 1), repeat=many):
                    self.assertEqual(is_round(net, value), told_round(net, value), (net, value))

    def test_all_rounds_begun_anywhere(self):
        chance = random.Random(121)
        for net in nets_of_all_kinds(122, 60):
            for told in all_rounds(net)[:30]:
                spot = chance.randrange(len(told))
                value = told[spot:] + told[:spot]
                self.assertTrue(is_round(net, value))
                wrong = list(value)
                wrong[chance.randrange(len(wrong))] = chance.randrange(len(net[0]))
                chance.shuffle(wrong)
                self.assertEqual(is_round(net, tuple(wrong)), told_round(net, tuple(wrong)))


class Lightest(OfficeCase):
    def looks_right(self, net, call=None):
        told = [sum(net[0][station] for station in stations) for stations in all_rounds(net)]
        lightest, standing = (call or self.got)(lightest_round, net), (call or self.got)(fewest_stuck, net)
        if not told:
            self.assertIsNone(lightest)
            self.assertIsNone(standing)
            return
        self.assertEqual((type(lightest), len(lightest)), (tuple, 2))
        weight, stations = lightest
        self.assertEqual((type(weight), weight), (int, min(told)), net)
        self.assertTrue(told_round(net, stations), net)
        self.assertEqual(sum(net[0][station] for station in stations), weight)
        self.assertIsNone(standing_error(net, standing))
        self.assertNotIn(None, standing)
        self.assertEqual(len(standing), weight)
        self.assertNotEqual(all_lots(net, standing), [])

    def test_weights(self):
        for weight, net in (
            (3, ROW), (3, EIGHT), (5, RING), (3, DOWN), (None, ONE), (None, SLOPE), (8, line_net((4, 4))), (2, line_net((4, 1, 1))),
            (40, ring_net((4,) * 10)), (10, ring_net((1,) * 10)), (5, star_net((4, 3, 2, 1))), (None, ((1,) * 10, ())), (5, PIECES),
            (2, (PIECES[0], ((0, 3), (2, 4), (3, 0), (4, 2), (4, 5), (5, 4)))), (5, eight_net((1, 4, 4, 1, 1, 1, 1), 2)),
        ):
            found = self.got(lightest_round, net)
            self.assertEqual(found if found is None else found[0], weight, net)
            self.looks_right(net)

    def test_more_stations_may_be_lighter(self):
        net = ((1, 4, 1, 1), ((0, 1), (0, 2), (1, 0), (2, 3), (3, 0)))
        self.looks_right(net)
        self.assertIn(lightest_round(net), ((3, (0, 2, 3)), (3, (2, 3, 0)), (3, (3, 0, 2))))

    def test_tracks_of_all_sizes(self):
        for tracks in itertools.product((1, 2, 3, 4), repeat=3):
            for net in (line_net(tracks), ring_net(tracks), (tracks, DOWN[1])):
                self.looks_right(net)
        self.assertEqual(lightest_round(TEN)[0], 8)
        self.assertEqual(len(fewest_stuck(TEN)), 8)

    def test_forty_trains(self):
        net = ring_net((4,) * 10)
        self.looks_right(net)
        self.assertEqual(len(fewest_stuck(net)), 40)

    def test_all_kinds_of_nets(self):
        for net in nets_of_all_kinds(123, 200):
            self.looks_right(net, lambda function, *arguments: function(*arguments))


class PartsAndReach(OfficeCase):
    def test_parts(self):
        for told, net in (
            (((0,), (1, 2)), DOWN), (((0, 1, 2),), ROW), (((0, 1, 2),), LOOP), (((0,),), ONE), (((0, 1, 2, 3, 4),), EIGHT),
            (((0, 3), (1, 2), (4,), (5,)), PIECES), (tuple([(station,) for station in range(10)]), SLOPE),
            (tuple([(station,) for station in range(10)]), ((1,) * 10, ())), ((tuple(range(10)),), TEN),
            (((0, 2), (1, 3)), ((1,) * 4, ((0, 2), (1, 3), (2, 0), (3, 1)))), (((0, 2), (1,)), ((1,) * 3, ((0, 1), (0, 2), (2, 0)))),
        ):
            self.gives(told, parts, net)

    def test_reach(self):
        for told, net, station in (
            ((1, 2), DOWN, 0), ((1, 2), DOWN, 1), ((1, 2), DOWN, 2), ((0, 1, 2), ROW, 0), ((0, 1, 2), LOOP, 2), ((), ONE, 0),
            ((0, 1, 2, 3), PIECES, 0), ((1, 2), PIECES, 4), ((), PIECES, 5), ((), SLOPE, 9), ((5, 6, 7, 8, 9), SLOPE, 4), ((9,), SLOPE, 8),
            (tuple(range(10)), TEN, 3), ((1,), ((1, 1), ((0, 1),)), 0),
        ):
            self.gives(told, reach, net, station)

    def test_all_kinds_of_nets(self):
        for net in nets_of_all_kinds(124, 200):
            come = comes(net)
            on_rounds = {station for stations in all_rounds(net) for station in stations}
            for station in come:
                self.assertEqual(reach(net, station), tuple(sorted(come[station])), (net, station))
                self.assertEqual(station in reach(net, station), station in on_rounds)
            told = {tuple([other for other in sorted(come) if other == station or other in come[station] and station in come[other]]) for station in come}
            self.assertEqual(parts(net), tuple(sorted(told)), net)


class WhatHolds(OfficeCase):
    def test_a_lot_has_a_round_of_full_stations_in_it(self):
        tried = 0
        for net, standing in crowded(125, 100):
            for lot in all_lots(net, standing):
                tried += 1
                within = (net[0], tuple([line for line in net[1] if line[0] in lot and line[1] in lot]))
                self.assertTrue(all_rounds(within))
                trains = [item for item in standing if item is not None]
                self.assertGreaterEqual(len(trains), lightest_round(net)[0])
        self.assertGreater(tried, 100)

    def test_each_round_lies_in_one_part(self):
        for net in nets_of_all_kinds(126, 60):
            told = parts(net)
            for stations in all_rounds(net):
                self.assertEqual(len([part for part in told if set(part) & set(stations)]), 1)

    def test_with_fewer_trains_nobody_is_stuck(self):
        for net in (ROW, RING, EIGHT, DOWN, BOTH):
            weight = lightest_round(net)[0]
            moving = [(i, ((j, ()),)) for i, j in net[1]]
            for trains in itertools.combinations_with_replacement(moving, weight - 1):
                self.assertEqual(all_lots(net, trains) if standing_error(net, trains) is None else [], [])


if __name__ == "__main__":
    unittest.main()

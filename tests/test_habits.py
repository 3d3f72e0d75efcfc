"""Habits for nets that are not gated: [A3], [J1], [J2], and of [J3] what holds of them."""

import random
import unittest

from support import (
    BOTH, LOOP, TEN, OfficeCase, counted, crowded, nets_of_all_kinds, small_nets, some_nets, told_behind, told_greatest, told_moves,
    told_ungated,
)

from singlegates.errors import Stuck, Unfit
from singlegates.gates import is_gated
from singlegates.habits import home_by_habit, left_out, lesser_net, lesser_way
from singlegates.homes import savable
from singlegates.makers import eight_net, line_net, ring_net, star_net
from singlegates.moving import led, run_error
from singlegates.nets import net_error
from singlegates.standings import standing_error
from singlegates.ways import plain, way_error

ROW, EIGHT, ONES = line_net((2, 1, 2)), eight_net((1, 1, 2, 1, 1), 2), line_net((1, 1, 1, 1))
WAITING = (plain((0, 1, 2)),) * 2 + (plain((2, 1, 0)),) * 2
ONE = ((1,), ())
PLAIN_TEN = ((1,) * 10, TEN[1])
# 0 and 3 with two tracks each, and between them a round of two stations with one track.
MIDDLE = ((2, 1, 1, 2), ((0, 1), (1, 0), (1, 2), (2, 1), (2, 3), (3, 2)))


def told_habit(net):
    """The stations that are left out, and the lesser net, read once more from the document."""
    tracks, lines = net[0], set(net[1])
    out = []
    while told_ungated((tracks, tuple(sorted(lines)))):
        least = min(told_ungated((tracks, tuple(sorted(lines)))))
        out.append(least)
        come, go = {y for y, to in lines if to == least}, {x for origin, x in lines if origin == least}
        lines = {line for line in lines if least not in line} | {(y, x) for y in come for x in go if y != x}
    return tuple(sorted(out)), (tracks, tuple(sorted(lines)))


def told_lesser(way, out):
    """The lesser way, None if there is none, read once more from the document."""
    stations = [way[0]]
    while way[1]:
        if len(way[1]) > 1:
            return None
        way = way[1][0]
        stations.append(way[0])
    if stations[0] in out or stations[-1] in out:
        return None
    kept = [station for station in stations if station not in out]
    return plain(tuple([kept[k] for k in range(len(kept)) if k == 0 or kept[k] != kept[k - 1]]))


def habit_standing(chance, net, share, most):
    """A standing whose trains have plain ways that neither begin nor end at a left-out station."""
    out = told_habit(net)[0]
    trains = [None] * chance.choice((0, 0, 1))
    for station, many in enumerate(net[0]):
        for _ in range(many if station not in out else 0):
            road = [station]
            for _ in range(most):
                targets = [target for origin, target in net[1] if origin == road[-1]]
                if targets and (road[-1] in out or chance.random() < 0.8):
                    road.append(chance.choice(targets))
            while road[-1] in out:
                road.pop()
            if chance.random() < share:
                trains.append(plain(tuple(road)))
    trains = trains[-40:]
    chance.shuffle(trains)
    return tuple(trains)


def nets_with_habits(seed, many):
    """Nets of all kinds, most of them not gated."""
    for net in list(nets_of_all_kinds(seed, many)) + [ROW, EIGHT, ONES, MIDDLE, PLAIN_TEN]:
        yield net
        yield (tuple([1 if number < 3 else 2 for number in net[0]]), net[1])


class LeftOut(OfficeCase):
    def test_told_nets(self):
        for net, out, lines in (
            (ROW, (1,), ((0, 2), (2, 0))), (EIGHT, (0,), ((1, 2), (2, 1), (2, 3), (3, 4), (4, 1), (4, 3))), (ONES, (1, 2), ((0, 3), (3, 0))), (LOOP, (), LOOP[1]),
            (ring_net((1,) * 10), (), ring_net((1,) * 10)[1]), (ONE, (), ()), (star_net((1, 1)), (), ((0, 1), (1, 0))), (star_net((1, 1, 1)), (0,), ((1, 2), (2, 1))),
            (line_net((2, 2, 1, 2)), (2,), ((0, 1), (1, 0), (1, 3), (3, 1))), (line_net((1, 1, 2, 1, 1)), (1, 3), ((0, 2), (2, 0), (2, 4), (4, 2))), (TEN, (), TEN[1]),
            (MIDDLE, (1, 2), ((0, 3), (3, 0))), (PLAIN_TEN, (0, 1, 2, 3, 4, 5, 6, 7), ((8, 9), (9, 8))), (line_net((1,) * 10), tuple(range(1, 9)), ((0, 9), (9, 0))),
            (star_net((1, 2, 2, 2)), (0,), ((1, 2), (1, 3), (2, 1), (2, 3), (3, 1), (3, 2))), (star_net((1, 1, 1, 1)), (0, 1), ((2, 3), (3, 2))), (((1,) * 10, ()), (), ()),
        ):
            self.gives(out, left_out, net)
            self.gives((net[0], lines), lesser_net, net)
            self.assertEqual(told_habit(net), (out, (net[0], lines)))

    def test_all_kinds_of_nets(self):
        found = 0
        for net in list(nets_with_habits(301, 150)) + list(small_nets()) + list(some_nets(302, 60)):
            out, lesser = told_habit(net)
            self.gives(out, left_out, net)
            self.gives(lesser, lesser_net, net)
            found += len(out) > 1
        self.assertGreater(found, 60)


class LesserWay(OfficeCase):
    def test_told_ways(self):
        for net, stations, told in (
            (ROW, (0, 1, 2), (0, 2)), (ROW, (0, 1, 0), (0,)), (ONES, (0, 1, 2, 1, 2, 3), (0, 3)), (ONES, (0, 1, 2, 1, 0), (0,)), (ROW, (0,), (0,)), (ROW, (2,), (2,)),
            (ROW, (0, 1, 0, 1, 0, 1, 2, 1, 2, 1, 0, 1, 2), (0, 2, 0, 2)), (ROW, (0, 1, 2, 1, 0, 1, 2, 1, 0, 1, 2, 1, 0), (0, 2, 0, 2, 0, 2, 0)), (LOOP, (0, 1, 2, 0), (0, 1, 2, 0)),
            (EIGHT, (1, 2, 0, 1, 2), (1, 2, 1, 2)), (EIGHT, (2, 0, 3, 4, 0, 1), (2, 3, 4, 1)), (MIDDLE, (0, 1, 2, 1, 2, 3, 2, 3), (0, 3)), (MIDDLE, (3, 2, 3, 2, 1, 0), (3, 0)),
            (line_net((2, 2, 1, 2)), (0, 1, 2, 1, 0, 1, 2, 3), (0, 1, 0, 1, 3)), (TEN, (5, 4, 5, 4, 5), (5, 4, 5, 4, 5)), (ONE, (0,), (0,)),
        ):
            self.gives(plain(told), lesser_way, net, plain(stations))

    def test_first_and_last_stations_that_are_left_out(self):
        for net, stations in (
            (ROW, (0, 1)), (ROW, (1, 0)), (ROW, (1,)), (ROW, (1, 0, 1)), (ROW, (1, 2, 1, 0)), (ROW, (0, 1, 2, 1)), (ONES, (0, 1, 2)), (ONES, (1, 0)), (ONES, (2, 3)), (ONES, (3, 2)),
            (EIGHT, (0, 1)), (EIGHT, (2, 0)), (PLAIN_TEN, (8, 7)), (PLAIN_TEN, (7, 8)), (PLAIN_TEN, (0,)),
        ):
            self.refuses(Unfit, {}, lesser_way, net, plain(stations))

    def test_choices(self):
        for net, way in (
            (ROW, (0, ((1, ((0, ()), (2, ()))),))), (ROW, (1, ((0, ()), (2, ())))), (((2, 2, 2), BOTH[1]), (1, ((0, ()), (2, ())))), (TEN, counted(40)), (LOOP, plain((0, 1))),
            (TEN, (0, ((1, ((2, ()), (3, ()))),))), (ROW, (2, ((1, ((0, ((1, ((0, ()), (2, ()))),)), (2, ()))),))),
        ):
            if net == LOOP:
                self.gives(way, lesser_way, net, way)
            else:
                self.refuses(Unfit, {}, lesser_way, net, way)

    def test_all_kinds_of_ways(self):
        chance = random.Random(303)
        told = {True: 0, False: 0}
        for net in nets_with_habits(304, 80):
            out, lesser = told_habit(net)
            for _ in range(3):
                road = [chance.randrange(len(net[0]))]
                for _ in range(chance.randint(0, 12)):
                    targets = [target for origin, target in net[1] if origin == road[-1]]
                    if targets:
                        road.append(chance.choice(targets))
                way = plain(tuple(road))
                left = told_lesser(way, out)
                told[left is None] += 1
                if left is None:
                    self.refuses(Unfit, {}, lesser_way, net, way)
                else:
                    self.gives(left, lesser_way, net, way)
                    self.assertIsNone(way_error(lesser, left))
        self.assertGreater(min(told.values()), 60, told)


class HomeByHabit(OfficeCase):
    def is_home(self, net, standing):
        """The run that is returned is one behind which all are gone, and in which nobody rests where nobody may."""
        run = self.got(home_by_habit, net, standing)
        self.assertIsNone(run_error(net, standing, run))
        self.assertEqual(led(net, standing, run), (None,) * len(standing))
        out = told_habit(net)[0]
        for spot, (train, target) in enumerate(run):
            if target in out:
                self.assertEqual(run[spot + 1][0], train)
        return run

    def test_told_standings(self):
        self.is_home(ROW, WAITING[1:])
        self.is_home(ROW, WAITING[:3])
        self.is_home(ROW, WAITING[:2] + (None,) + WAITING[3:])
        self.gives(((0, 1), (0, 0), (0, None)), home_by_habit, ONES, (plain((0, 1, 0)),))
        self.gives(((0, 1), (0, 2), (0, 1), (0, 2), (0, 3), (0, None)), home_by_habit, ONES, (plain((0, 1, 2, 1, 2, 3)),))
        self.gives(((0, 1), (0, 2), (0, 1), (0, 0), (0, None)), home_by_habit, ONES, (plain((0, 1, 2, 1, 0)),))
        for net in (ROW, EIGHT, ONES, ONE, TEN):
            self.gives((), home_by_habit, net, ())
            self.gives((), home_by_habit, net, (None,) * 40)
        self.gives(((0, None),), home_by_habit, ROW, ((2, ()),))

    def test_ways_that_come_back_to_where_they_were(self):
        back = plain((0, 1, 0, 1, 0, 1, 2, 1, 2, 1, 0, 1, 2))
        self.assertEqual(len(self.is_home(ROW, (back, plain((2, 1, 2, 1, 0)), plain((0, 1, 0))))), 13 + 5 + 3)
        self.is_home(ROW, (plain((0, 1, 0)), plain((0, 1, 0)), plain((2, 1, 2)), plain((2, 1, 2))))
        self.is_home(MIDDLE, (plain((0, 1, 2, 1, 2, 3, 2, 3)), plain((3, 2, 3, 2, 1, 0)), plain((3, 2, 3)), plain((0, 1, 0, 1, 2, 3))))

    def test_a_gated_net_has_no_habit(self):
        self.is_home(LOOP, (plain((0, 1, 2, 0)), plain((1, 2))))
        self.refuses(Stuck, {"lot": (0, 1, 2)}, home_by_habit, LOOP, (plain((0, 1)), plain((1, 2)), plain((2, 0))))

    def test_40_trains(self):
        standing = tuple([plain(tuple([(station + step) % 10 for step in range(13)])) for station in range(10) for _ in range(4)])
        net = ring_net((4,) * 10)
        self.assertEqual(len(self.is_home(net, standing[:39])), 39 * 13)
        self.refuses(Stuck, {"lot": tuple(range(10))}, home_by_habit, net, standing)

    def test_stuck(self):
        self.refuses(Stuck, {"lot": (0, 2)}, home_by_habit, ROW, WAITING)
        self.refuses(Stuck, {"lot": (0, 3)}, home_by_habit, ONES, (plain((0, 1, 2, 3)), None, plain((3, 2, 1, 0))))
        two = ((2, 1, 2, 2, 1, 2), ((0, 1), (1, 0), (1, 2), (2, 1), (3, 4), (4, 3), (4, 5), (5, 4)))
        jam = WAITING + (plain((3, 4, 5)),) * 2 + (plain((5, 4, 3)),) * 2
        self.refuses(Stuck, {"lot": (0, 2, 3, 5)}, home_by_habit, two, jam)
        self.refuses(Stuck, {"lot": (3, 5)}, home_by_habit, two, jam[1:])
        self.is_home(two, jam[1:-1])

    def test_unfit(self):
        for way in (plain((0, 1)), plain((1, 0)), (1, ()), (0, ((1, ((0, ()), (2, ()))),)), plain((2, 1))):
            self.refuses(Unfit, {}, home_by_habit, ROW, (way,))
            self.refuses(Unfit, {}, home_by_habit, ROW, (None, plain((0, 1, 2)), way))
        for way in (plain((0, 1)), (0, ((1, ((0, ()), (2, ()))),)), plain((0, 1, 0, 1))):
            self.refuses(Unfit, {}, home_by_habit, ROW, WAITING[2:] + (plain((0, 1, 2)), way))

    def test_unfit_comes_ahead_of_stuck(self):
        self.refuses(Unfit, {}, home_by_habit, ROW, WAITING + ((1, ()),))
        self.refuses(Unfit, {}, home_by_habit, ROW, ((1, ()),) + WAITING)
        self.refuses(Stuck, {"lot": (0, 2)}, home_by_habit, ROW, (None,) + WAITING)

    def test_all_kinds_of_standings(self):
        chance = random.Random(305)
        told = {"stuck": 0, "home": 0, "unfit": 0}
        for net in list(nets_with_habits(306, 60)) * 2:
            if len(net[1]) > 45 and len(net[0]) > 8:
                continue
            standing = habit_standing(chance, net, chance.choice((0.6, 0.9, 1)), chance.choice((1, 2, 3, 8)))
            out, lesser = told_habit(net)
            if out and chance.random() < 0.1:
                standing = standing[:39] + ((out[0], ()),)
                self.assertIsNone(standing_error(net, standing))
                self.refuses(Unfit, {}, home_by_habit, net, standing)
                told["unfit"] += 1
                continue
            left = tuple([item and told_lesser(item, out) for item in standing])
            self.assertIsNone(standing_error(lesser, left))
            lot = told_greatest(lesser, left)
            if lot:
                self.refuses(Stuck, {"lot": lot}, home_by_habit, net, standing)
            else:
                self.is_home(net, standing)
            told["stuck" if lot else "home"] += 1
        self.assertGreater(min(told.values()), 20, told)

    def test_standings_with_choices(self):
        for net, standing in crowded(307, 60):
            out, lesser = told_habit(net)
            left = tuple([item and told_lesser(item, out) for item in standing])
            if any(item is not None and now is None for item, now in zip(standing, left)):
                self.refuses(Unfit, {}, home_by_habit, net, standing)
            elif told_greatest(lesser, left):
                self.refuses(Stuck, {"lot": told_greatest(lesser, left)}, home_by_habit, net, standing)
            else:
                self.is_home(net, standing)


def by_habit(net, standing, most):
    """Whether some run by the habit leads all off, as all such runs are gone through; None if there are too many."""
    out = told_habit(net)[0]
    seen, left = {(standing, None)}, [(standing, None)]
    while left:
        now, moving = left.pop()
        for train, target in told_moves(net, now):
            if moving in (None, train):
                behind = (told_behind(now, (train, target)), train if target in out else None)
                if behind not in seen:
                    seen.add(behind)
                    left.append(behind)
        if len(seen) > most:
            return None
    return ((None,) * len(standing), None) in seen


class WhatHolds(OfficeCase):
    def test_the_lesser_net(self):
        for net in nets_with_habits(311, 100):
            out, lesser = left_out(net), lesser_net(net)
            self.assertIsNone(net_error(lesser))
            self.assertTrue(is_gated(lesser))
            self.assertEqual(told_ungated(lesser), ())
            if not told_ungated(net):
                self.assertEqual((out, lesser), ((), net))
            for station in range(len(net[0])):
                come, waiting = set(), [station]
                while waiting:
                    here = waiting.pop()
                    for origin, target in net[1]:
                        if origin == here and target not in come:
                            come.add(target)
                            waiting += [target] if target in out else []
                told = [] if station in out else sorted(come - set(out) - {station})
                self.assertEqual([target for origin, target in lesser[1] if origin == station], told, (net, station))

    def test_by_habit_exactly_if_the_lesser_standing_has_no_lot(self):
        chance = random.Random(312)
        told = {True: 0, False: 0}
        for net in list(nets_with_habits(313, 100)) * 2:
            if len(net[1]) > 45:
                continue
            standing = habit_standing(chance, net, chance.choice((0.8, 1)), chance.choice((1, 2, 2)))
            home = by_habit(net, standing, 600)
            if home is None:
                continue
            told[home] += 1
            if home:
                self.assertEqual(led(net, standing, home_by_habit(net, standing)), (None,) * len(standing))
            else:
                self.assertRaises(Stuck, home_by_habit, net, standing)
        self.assertGreater(min(told.values()), 20, told)

    def test_a_train_may_do_better_by_resting(self):
        square = ((2, 1, 1, 2), ((0, 1), (0, 2), (1, 0), (1, 3), (2, 0), (2, 3), (3, 1), (3, 2)))
        standing = (plain((0, 1, 3)),) * 2 + (plain((3, 2, 0)),) * 2
        self.gives((1, 2), left_out, square)
        self.assertIs(savable(square, standing), True)
        self.refuses(Stuck, {"lot": (0, 3)}, home_by_habit, square, standing)


if __name__ == "__main__":
    unittest.main()

"""The office: [A3], [G1] to [G3], of [G4] what holds of it, and of [M] what it has to see."""

import itertools
import random
import unittest

from support import (
    BOTH, LOOP, TEN, OfficeCase, any_values, come_to, crowded, free_standings, gets_home, integers_not, nearly_stuck,
    some_standings, told_behind, told_closure, told_greatest, told_moves, turned_ranks,
)

from singlegates.errors import BadMove, Unfit
from singlegates.gates import apart
from singlegates.makers import eight_net, line_net, ring_net
from singlegates.offices import first_let, let_into, let_moves, lets
from singlegates.standings import steps_left
from singlegates.traps import trap
from singlegates.ways import plain

LINE = ((1, 2, 1), ((0, 1), (1, 0), (1, 2), (2, 1)))
TIGHT = (plain((0, 1)), plain((1, 0)), plain((1, 0)), plain((2, 1, 0)))
NEAR = (plain((0, 1)), plain((1, 0)), plain((2, 1, 0)))
STAR = ((1, 1, 1), ((0, 1), (0, 2), (1, 0), (2, 0)))
EITHER = (0, ((1, ()), (2, ())))
ONE = ((1,), ())
FORTY = tuple([plain((station, (station + 1) % 10)) for station in range(10) for _ in range(4)])
RING = ring_net((4,) * 10)
SPUR = ((4,) * 10, tuple(sorted([(station, (station + 1) % 9) for station in range(9)] + [(9, 0)])))
FORTY_SPUR = FORTY[:3] + (plain((9, 0, 1)),) + FORTY[4:32] + (plain((8, 0)),) * 4
# A lot of 0 and 1 stands; beside it the train 2 may go on, to 3 or to 4.
BESIDE = (((1, 1, 1, 1, 1), ((0, 1), (1, 0), (2, 3), (2, 4), (3, 2))), (plain((0, 1)), plain((1, 0)), (2, ((3, ()), (4, ())))))


def told_lets(net, standing, move):
    """Whether the office lets a move that can be made, by the document's words."""
    return move[1] is None or told_closure(net, told_behind(standing, move), move[1]) == ()


def told_let_moves(net, standing):
    return tuple([move for move in told_moves(net, standing) if told_lets(net, standing, move)])


class Lets(OfficeCase):
    def test_lets(self):
        for net, standing, move, told in (
            (LINE, NEAR, (0, 1), True), (LINE, NEAR, (2, 1), False), (LINE, (plain((0, 1)), (1, ())), (1, None), True), (ONE, ((0, ()),), (0, None), True),
            (LINE, NEAR[1:], (1, 1), True), (STAR, (EITHER,), (0, 2), True), (STAR, (plain((1, 0, 2)), plain((2, 0))), (0, 0), False),
            (STAR, (plain((1, 0, 2)), plain((2, 0))), (1, 0), True), (STAR, ((1, ((0, ((1, ()), (2, ()))),)), plain((2, 0))), (0, 0), True),
            (BOTH, (plain((0, 1, 2)),) * 2 + (plain((2, 1, 0)),) * 2, (0, 1), False), (RING, FORTY[1:] + (None,), (38, 0), True),
            (SPUR, FORTY_SPUR, (3, 0), False), (LOOP, (plain((0, 1, 2)), plain((2, 0))), (0, 1), True),
            (LOOP, (plain((0, 1, 2)), plain((2, 0, 1))), (1, 0), None), (LINE, (plain((0, 1)), (1, ()), None), (0, 1), True),
        ):
            if told is None:
                self.refuses(BadMove, {"error": "full"}, lets, net, standing, move)
            else:
                self.gives(told, lets, net, standing, move)
                self.assertEqual(told_lets(net, standing, move), told)

    def test_a_lot_beside_does_not_matter(self):
        for move in ((2, 3), (2, 4)):
            self.gives(True, lets, *BESIDE, move)
        self.gives(((2, 3), (2, 4)), let_moves, *BESIDE)
        self.gives((2, 4), first_let, *BESIDE[:1], BESIDE[1][:2] + ((2, ((3, ((2, ()),)), (4, ()))), plain((3, 2))), (3, 1, 2, 0))

    def test_moves_that_cannot_be_made(self):
        for error, standing, value in (
            ("form", NEAR, (3, 1)), ("form", NEAR, (-1, 1)), ("form", NEAR, [0, 1]), ("form", NEAR, (True, 1)), ("form", NEAR, (0, True)), ("form", NEAR, ("0", 1)),
            ("form", NEAR, (0, 1, 1)), ("form", NEAR, (10 ** 399, 1)), ("form", (), (0, None)), ("form", NEAR, (0, "1")), ("gone", (None,), (0, None)),
            ("gone", (None, NEAR[0]), (0, 1)), ("way", NEAR, (0, None)), ("way", NEAR, (0, 2)), ("way", NEAR, (0, 0)), ("way", NEAR, (0, 10 ** 399)),
            ("way", (plain((1,)),), (0, 0)), ("full", NEAR, (1, 0)), ("full", TIGHT, (0, 1)), ("full", TIGHT, (3, 1)),
        ):
            self.refuses(BadMove, {"error": error}, lets, LINE, standing, value)
        for value in any_values():
            self.refuses(BadMove, {"error": "way" if value == (0, 0) else "form"}, lets, LINE, NEAR, value)
        for wrong in integers_not():
            self.refuses(BadMove, {"error": "form"}, lets, LINE, NEAR, (wrong, 1))

    def test_all_kinds_of_standings(self):
        told = {True: 0, False: 0}
        for net, standing in list(crowded(201, 150)) + list(some_standings(202, 60)) + list(nearly_stuck(222, 80, (1, 2))) + list(free_standings(203, 100, (1, 2, 3))):
            for move in told_moves(net, standing):
                answer = told_lets(net, standing, move)
                self.assertIs(lets(net, standing, move), answer, (net, standing, move))
                told[answer] += 1
        self.assertGreater(min(told.values()), 100)


class LetMoves(OfficeCase):
    def test_let_moves(self):
        for net, standing, told in (
            (LINE, NEAR, ((0, 1),)), (LINE, TIGHT, ()), (LINE, (plain((0, 1)), (1, ()), None), ((0, 1), (1, None))), (LINE, (), ()), (TEN, (None,) * 40, ()),
            (STAR, (EITHER,), ((0, 1), (0, 2))), (RING, FORTY, ()), (RING, FORTY[:39], ((32, 9), (33, 9), (34, 9), (35, 9))), (ONE, ((0, ()),), ((0, None),)),
            (RING, FORTY[:36] + ((9, ()),) * 4, ((36, None), (37, None), (38, None), (39, None))), (BOTH, ((1, ((0, ()), (2, ()))), (0, ()), (0, ())), ((0, 2), (1, None), (2, None))),
            (BOTH, (plain((0, 1, 2)),) * 2 + (plain((2, 1, 0)),) * 2, ()), (TEN, ((5, ((0, ()), (4, ()), (9, ()))), None, (3, ())), ((0, 0), (0, 4), (0, 9), (2, None))),
        ):
            self.gives(told, let_moves, net, standing)
            for station in range(len(net[0])):
                self.gives(tuple([move for move in told if move[1] == station]), let_into, net, standing, station)

    def test_let_into(self):
        self.gives(((0, 1),), let_into, LINE, NEAR, 1)
        self.gives((), let_into, LINE, NEAR, 0)
        self.gives(((0, 1), (2, 1)), let_into, LINE, (plain((0, 1)), None, plain((2, 1, 0))), 1)
        self.gives((), let_into, LINE, ((0, ()), (1, ())), 0)
        self.gives(((32, 9), (33, 9), (34, 9), (35, 9)), let_into, RING, FORTY[:39], 9)

    def test_all_kinds_of_standings(self):
        refused = 0
        for net, standing in list(crowded(204, 150)) + list(some_standings(205, 60)) + list(nearly_stuck(225, 80, (1, 2))) + list(free_standings(206, 100, (1, 2, 3))):
            told = told_let_moves(net, standing)
            self.assertEqual(repr(let_moves(net, standing)), repr(told), (net, standing))
            refused += len(told_moves(net, standing)) - len(told)
            for station in range(len(net[0])):
                self.assertEqual(let_into(net, standing, station), tuple([move for move in told if move[1] == station]))
        self.assertGreater(refused, 100)


class FirstLet(OfficeCase):
    def test_by_rank(self):
        self.gives((0, 1), first_let, LINE, NEAR, (2, 1, 0))
        for rank in itertools.permutations(range(3)):
            self.gives((0, 1), first_let, LINE, NEAR, rank)
            self.gives((rank[0], (rank[0] + 1) % 3), first_let, ((2, 2, 2), LOOP[1]), (plain((0, 1)), plain((1, 2)), plain((2, 0))), rank)
        for rank in itertools.permutations(range(4)):
            self.gives(None, first_let, LINE, TIGHT, rank)
        self.gives((0, 1), first_let, STAR, (EITHER, None), (1, 0))
        self.gives((1, None), first_let, LINE, (plain((0, 1)), (1, ())), (1, 0))
        self.gives((0, 1), first_let, LINE, (plain((0, 1)), (1, ())), (0, 1))
        self.gives(None, first_let, STAR, (None,), (0,))
        self.gives(None, first_let, STAR, (), ())
        self.gives(None, first_let, TEN, (None,) * 40, tuple(range(39, -1, -1)))
        self.gives((34, 9), first_let, RING, FORTY[:39], tuple(range(30)) + (34, 33, 32, 31, 30, 35, 36, 37, 38))

    def test_the_least_station_of_several(self):
        wide = (5, ((0, ()), (4, ()), (9, ())))
        self.gives((0, 0), first_let, TEN, (wide,), (0,))
        self.gives((1, 0), first_let, TEN, ((3, ()), wide), (1, 0))
        self.gives((4, 4), first_let, TEN, ((0, ()),) * 4 + (wide,), (4, 3, 2, 1, 0))
        self.gives((8, 9), first_let, TEN, ((0, ()),) * 4 + ((4, ()),) * 4 + (wide,), (8,) + tuple(range(8)))

    def test_a_refused_move_is_passed_by_for_another_of_the_same_train(self):
        net = ((1, 1, 1, 1), ((0, 1), (0, 3), (1, 2), (2, 1)))
        standing = ((0, ((1, ((2, ()),)), (3, ()))), plain((2, 1)))
        self.gives((0, 3), first_let, net, standing, (0, 1))
        self.gives((1, 1), first_let, net, standing, (1, 0))

    def test_no_ranks(self):
        for net, standing in ((LINE, NEAR), (LINE, TIGHT), (STAR, (EITHER, None)), (STAR, (EITHER,)), (STAR, ()), (TEN, (None,) * 40)):
            for value in turned_ranks(standing):
                self.refuses(Unfit, {}, first_let, net, standing, value)
        for value in any_values():
            self.refuses(Unfit, {}, first_let, LINE, NEAR, value)
            if value != ():
                self.refuses(Unfit, {}, first_let, LINE, (), () + (value,))
        for wrong in integers_not():
            self.refuses(Unfit, {}, first_let, STAR, (EITHER,), (wrong,))
            self.refuses(Unfit, {}, first_let, STAR, (EITHER, None), (0, wrong))

    def test_all_kinds_of_standings(self):
        chance = random.Random(207)
        for net, standing in list(crowded(208, 100)) + list(some_standings(209, 60)) + list(nearly_stuck(229, 80, (1, 2))) + list(free_standings(210, 80, (1, 2, 3))):
            rank = tuple(chance.sample(range(len(standing)), len(standing)))
            told = min([move for move in told_let_moves(net, standing)], key=lambda move: (rank.index(move[0]), move[1] or 0), default=None)
            self.gives(told, first_let, net, standing, rank)


class WhatHolds(OfficeCase):
    def test_no_lot_stands_behind_a_let_move_and_one_behind_each_other(self):
        refused = 0
        for net, standing in free_standings(211, 150, (1, 2, 3)):
            let = let_moves(net, standing)
            for move in told_moves(net, standing):
                lot = told_greatest(net, told_behind(standing, move))
                self.assertEqual(lot == (), move in let)
                refused += lot != ()
        self.assertGreater(refused, 30)

    def test_into_each_wanted_station_with_a_free_track(self):
        tried = 0
        for net, standing in free_standings(212, 250, (1, 1, 2, 3)):
            let = let_moves(net, standing)
            self.assertEqual(let == (), set(standing) <= {None})
            for station in {move[1] for move in told_moves(net, standing)} - {None}:
                tried += 1
                self.assertNotEqual(let_into(net, standing, station), (), (net, standing, station))
        self.assertGreater(tried, 200)

    def test_whichever_let_move_is_made_all_get_off(self):
        chance = random.Random(213)
        for net, standing in free_standings(214, 150, (1, 2, 3, 12)):
            most, made = steps_left(standing), 0
            while set(standing) - {None}:
                standing = told_behind(standing, chance.choice(let_moves(net, standing)))
                made += 1
            self.assertLessEqual(made, most)

    def test_the_freest_office(self):
        tried = refused = 0
        for net, standing in free_standings(215, 200, (1, 2, 2)):
            if len(come_to(net, standing, 600)) > 600:
                continue
            for move in told_moves(net, standing):
                tried += 1
                home = gets_home(net, told_behind(standing, move), 600)
                self.assertEqual(lets(net, standing, move), home, (net, standing, move))
                refused += not home
        self.assertGreater(tried, 200)
        self.assertGreater(refused, 10)

    def test_in_other_nets_it_lets_the_last_move_into_a_trap(self):
        for net in (line_net((2, 1, 2)), line_net((1, 1, 1)), eight_net((1, 1, 2, 1, 1), 2), line_net((4, 1, 1, 2)), eight_net((1, 2, 1, 1), 1)):
            station = bare_station(net)
            standing = trap(net)
            for first in [stations[1] for stations in apart(net, station)]:
                train = [train for train, item in enumerate(standing) if item[0] == first][0]
                ahead = standing[:train] + ((station, (standing[train],)),) + standing[train + 1:]
                self.gives(True, lets, net, ahead, (train, first))
                self.assertEqual(told_behind(ahead, (train, first)), standing)
                self.assertIs(gets_home(net, standing, 5000), False)

    def test_it_sees_where_trains_stand_and_what_they_want_and_what_the_one_that_moves_wants_behind(self):
        chance = random.Random(216)
        for net, standing in list(free_standings(217, 100, (2, 3, 4))) + list(crowded(218, 80)):
            for train, target in told_moves(net, standing):
                short = [cut(item, 2 if k == train else 1) for k, item in enumerate(standing)]
                longer = [grown(chance, net, item) for item in short]
                longer[train] = short[train] and (short[train][0], tuple([(branch[0], tuple([grown(chance, net, twig) for twig in branch[1]])) for branch in short[train][1]]))
                for other in (tuple(short), tuple(longer)):
                    self.assertEqual(lets(net, other, (train, target)), lets(net, standing, (train, target)), (net, standing, other))


def bare_station(net):
    """The one-track station that its trap leaves free: no train of the trap stands there, and some want it."""
    standing = trap(net)
    return [branch[0] for item in standing for branch in item[1] if branch[0] not in [other[0] for other in standing]][0]


def cut(way, depth):
    """What of a way is left if its walks are cut behind so many steps, None for None."""
    if way is None:
        return None
    return (way[0], tuple([cut(branch, depth - 1) for branch in way[1]]) if depth else ())


def grown(chance, net, way):
    """The way with a step more behind each of its ends that are no ends of the whole way, None for None."""
    if way is None or not way[1]:
        return way
    further = []
    for branch in way[1]:
        targets = [target for origin, target in net[1] if origin == branch[0]]
        more = ((chance.choice(targets), ()),) if targets and not branch[1] else branch[1]
        further.append((branch[0], more))
    return (way[0], tuple(further))


if __name__ == "__main__":
    unittest.main()

"""Traps: [A3], [F1] to [F3], and of [F4] what holds of them."""

import random
import unittest

from support import (
    BOTH, LOOP, TEN, OfficeCase, all_lots, any_values, crowded, gets_home, integers_not, nets_of_all_kinds, small_nets, some_nets,
    some_standing, some_standings,
)

from singlegates.errors import Unfit
from singlegates.gates import is_gated, widened
from singlegates.makers import eight_net, line_net, ring_net, star_net
from singlegates.moving import moved, moves
from singlegates.standings import standing_error
from singlegates.traps import late_trap, trap, trap_error
from singlegates.ways import plain

ROW, EIGHT = line_net((2, 1, 2)), eight_net((1, 1, 2, 1, 1), 2)
WAITING = (plain((0, 1, 2)),) * 2 + (plain((2, 1, 0)),) * 2
ONE = ((1,), ())
PLAIN_TEN = ((1,) * 10, TEN[1])
UNGATED = [
    ROW, EIGHT, line_net((1, 1, 1)), line_net((4, 1, 4)), line_net((1, 2, 1, 1)), line_net((1,) * 10), line_net((4, 4, 4, 4, 1, 4, 4, 4, 4, 4)),
    star_net((1, 2, 3)), star_net((1,) * 10), star_net((1,) + (4,) * 9), eight_net((1,) * 3, 1), eight_net((1,) * 10, 4), eight_net((1,) + (4,) * 9, 1),
    eight_net((1,) + (4,) * 9, 8), PLAIN_TEN, ((4,) * 9 + (1,), TEN[1]), ((1, 1, 1, 1), ((0, 1), (1, 0), (1, 2), (2, 3), (3, 1))),
    ((1,) * 5, ((0, 1), (0, 3), (1, 2), (1, 4), (2, 0), (3, 2), (4, 0))), ((2, 2, 2, 1, 1), ((0, 1), (1, 0), (2, 3), (3, 2), (3, 4), (4, 3))),
]
GATED = [
    ONE, LOOP, ((4,), ()), line_net((1, 1)), line_net((1, 2, 1)), line_net((1,) + (2,) * 8 + (1,)), ring_net((1, 3, 1)), ring_net((1,) * 10), star_net((2, 1, 1)),
    eight_net((2, 1, 1, 1), 1), TEN, ((1,) * 10, ()), ((1,) * 10, tuple([(i, j) for i in range(10) for j in range(i + 1, 10)])), widened(PLAIN_TEN), widened(ROW),
]


def told_error(net, value):
    """What trap_error tells, read once more from the document."""
    if standing_error(net, value) is not None:
        return "standing"
    if all_lots(net, value):
        return "lot"
    if moves(net, value) == ():
        return "still"
    for move in moves(net, value):
        if not all_lots(net, moved(net, value, move)):
            return ("move", move)
    return None


class Trap(OfficeCase):
    def test_told_nets(self):
        for net in UNGATED:
            standing = self.got(trap, net)
            self.assertEqual(type(standing), tuple)
            self.assertIsNone(standing_error(net, standing), net)
            self.assertIsNone(told_error(net, standing), net)
            self.gives(None, trap_error, net, standing)

    def test_gated_nets(self):
        for net in GATED:
            self.refuses(Unfit, {}, trap, net)

    def test_all_small_nets(self):
        found = 0
        for net in small_nets():
            for tracks in ((1,) * len(net[0]), (2, 1, 1)[:len(net[0])], (1, 2, 1)[:len(net[0])], (2, 3, 1)[:len(net[0])]):
                now = (tracks, net[1])
                if is_gated(now):
                    self.assertRaises(Unfit, trap, now)
                else:
                    found += 1
                    self.assertIsNone(told_error(now, trap(now)), now)
        self.assertGreater(found, 20)

    def test_all_kinds_of_nets(self):
        found = 0
        for net in list(nets_of_all_kinds(151, 300)) + list(some_nets(152, 100)):
            if is_gated(net):
                self.assertRaises(Unfit, trap, net)
            else:
                found += 1
                self.assertIsNone(told_error(net, trap(net)), net)
        self.assertGreater(found, 100)


class TrapError(OfficeCase):
    def test_traps(self):
        self.gives(None, trap_error, ROW, WAITING)
        self.gives(None, trap_error, ROW, WAITING[::-1])
        self.gives(None, trap_error, ROW, WAITING + (None,) * 36)
        self.gives(None, trap_error, line_net((1, 1, 1)), WAITING[1:3])
        either = ((0, ((1, ((2, ()),)),)), (2, ((1, ((0, ()),)),)))
        self.gives(None, trap_error, line_net((1, 1, 1)), either)
        round_by = (plain((1, 2, 3)), plain((3, 2, 1)), (0, ((1, ()),)))
        self.gives(None, trap_error, ((1, 1, 1, 1), ((0, 1), (1, 2), (2, 1), (2, 3), (3, 2))), round_by)

    def test_standing(self):
        for value in any_values():
            self.gives("still" if value in ((), (None, None)) else "standing", trap_error, ROW, value)
            if value is not None:
                self.gives("standing", trap_error, ROW, WAITING[:3] + (value,))
        for value in (
            list(WAITING), (WAITING,), WAITING[:2] + WAITING[:1], WAITING + ((2, ()),), WAITING + (None,) * 37, WAITING + ((1, ()), (1, ())), WAITING + ((3, ()),),
            WAITING[:3] + (WAITING[3][::-1],), WAITING[:3] + (list(WAITING[3]),), WAITING[:3] + ((2, ((1, ()), (0, ()))),), WAITING[:3] + ((2, [(1, ())]),),
            WAITING[:3] + ((2, ((True, ()),)),), WAITING[:3] + (WAITING[3] + (0,),), WAITING + (True,), (0, 1), "0-1-2;0-1-2;2-1-0;2-1-0", {}, None, 0,
        ):
            self.gives("standing", trap_error, ROW, value)
        self.gives("standing", trap_error, ONE, WAITING)

    def test_lot(self):
        self.gives("lot", trap_error, ROW, ((0, ((1, ()),)),) * 2 + ((1, ((0, ()),)),))
        self.gives("lot", trap_error, LOOP, (plain((0, 1)), plain((1, 2)), plain((2, 0))))
        self.gives("lot", trap_error, ROW, (plain((0, 1)),) * 2 + (plain((1, 0)), (2, ())))
        self.gives("lot", trap_error, ((1,) * 4, ((0, 1), (1, 0), (2, 3), (3, 2))), (plain((0, 1)), plain((1, 0)), plain((2, 3))))

    def test_still(self):
        for net in (ROW, ONE, TEN):
            for value in ((), (None,), (None,) * 40):
                self.gives("still", trap_error, net, value)

    def test_move(self):
        for value, told in (
            (WAITING[1:], (1, 1)), (WAITING[:2], (0, 1)), (WAITING[:1] * 2, (0, 1)), (((0, ()),), (0, None)), (WAITING[:1] + (None,) + WAITING[2:], (2, 1)),
            (WAITING[:1] + (plain((0, 1)),) + WAITING[2:], (1, 1)), (WAITING[:1] + ((0, ()),) + WAITING[2:], (1, None)), ((None, plain((1,))), (1, None)),
            (WAITING[:3] + (plain((2, 1)),), (3, 1)), (WAITING[:3] + ((2, ()),), (0, 1)), ((None, None) + WAITING[1:], (3, 1)), (((1, ((0, ()), (2, ()))),), (0, 0)),
        ):
            self.gives(("move", told), trap_error, ROW, value)
        barred = ((0, ((1, ((2, ()),)),)), (1, ((0, ()), (2, ()))))
        self.gives(("move", (1, 2)), trap_error, line_net((1, 1, 1)), barred)

    def test_two_faults_at_once(self):
        jam = (plain((0, 1)),) * 2 + (plain((1, 0)),)
        self.gives("standing", trap_error, ROW, jam + (0,))
        self.gives("standing", trap_error, ROW, jam + (plain((0, 1)),))
        self.gives("lot", trap_error, ROW, jam)
        self.gives("lot", trap_error, ROW, jam + ((2, ()),))
        self.gives("lot", trap_error, line_net((2, 1, 1, 1, 1)), jam + (plain((2, 3)), plain((4, 3))))

    def test_all_kinds_of_standings(self):
        chance = random.Random(153)
        told = {}
        for net, standing in list(some_standings(154, 150)) + list(crowded(155, 100)):
            if chance.random() < 0.5 and standing:
                standing = standing[1:]
            error = told_error(net, standing)
            self.assertEqual(trap_error(net, standing), error, (net, standing))
            told[str(error)[:6]] = True
        for net in UNGATED:
            standing = list(trap(net))
            for _ in range(4):
                standing[chance.randrange(len(standing))] = chance.choice((None, standing[0], (0, ()), (standing[0][0], ()) if standing[0] else None))
                error = told_error(net, tuple(standing))
                self.assertEqual(trap_error(net, tuple(standing)), error, (net, standing))
        self.assertLessEqual({"lot", "('move"}, set(told))


class LateTrap(OfficeCase):
    def test_late_traps(self):
        self.gives((((1, 1, 1), BOTH[1]), (plain((0, 1, 2)), plain((2, 1, 0)))), late_trap, 1)
        for many in range(1, 9):
            stations = tuple(range(many + 2))
            self.gives((line_net((1,) * (many + 2)), (plain(stations), plain(stations[::-1]))), late_trap, many)

    def test_unfit(self):
        for value in any_values() + integers_not() + [0, 9, 10, -1, -2, 10 ** 399, -10 ** 399]:
            self.refuses(Unfit, {}, late_trap, value)

    def test_first_moves_bring_no_lot(self):
        self.gives(None, trap_error, *late_trap(1))
        for many in range(2, 9):
            self.gives(("move", (0, 1)), trap_error, *late_trap(many))

    def test_the_trouble_shows_as_many_moves_later(self):
        for many in range(1, 9):
            net, standing = late_trap(many)
            self.assertIsNone(standing_error(net, standing))
            now = {standing}
            for made in range(many + 1):
                self.assertTrue(now)
                for behind in now:
                    self.assertEqual(bool(all_lots(net, behind)), made == many)
                now = {moved(net, behind, move) for behind in now for move in moves(net, behind)}
            self.assertFalse(gets_home(net, standing, 10 ** 6))


class WhatHolds(OfficeCase):
    def test_from_a_trap_not_all_get_off(self):
        tried = 0
        for net in UNGATED + [net for net in nets_of_all_kinds(156, 100) if not is_gated(net)]:
            home = gets_home(net, trap(net), 3000)
            self.assertFalse(home)
            tried += home is False
        self.assertGreater(tried, 50)

    def test_a_gated_net_has_none(self):
        chance = random.Random(157)
        for net in GATED + [widened(net) for net in UNGATED] + [widened(net) for net in some_nets(158, 100)]:
            for _ in range(3):
                standing = some_standing(chance, net, chance.choice((0.7, 0.9, 0.95)), (1, 1, 2, 3))
                self.assertIsNotNone(trap_error(net, standing))

    def test_in_a_gated_net_all_get_off_from_where_there_is_no_lot(self):
        chance = random.Random(159)
        tried = 0
        for net in [widened(net) for net in nets_of_all_kinds(160, 100)]:
            standing = some_standing(chance, net, 0.5, (1, 2))[:6]
            home = gets_home(net, standing, 3000)
            if home is not None:
                tried += 1
                self.assertEqual(home, not all_lots(net, standing), (net, standing))
        self.assertGreater(tried, 100)


if __name__ == "__main__":
    unittest.main()

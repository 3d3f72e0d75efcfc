"""Moves and runs: [A3], [C5] to [C7], and of [C9] what holds of them."""

import random
import unittest

from support import BOTH, LOOP, TEN, OfficeCase, any_values, integers_not, some_standings, told_behind

from singlegates.errors import BadMove, BadRun
from singlegates.moving import led, move_error, moved, moves, run_error
from singlegates.standings import standing_error, steps_left
from singlegates.ways import longest, plain

UP, DOWN = plain((0, 1, 2)), plain((2, 1, 0))
FACING = (UP, UP, DOWN, DOWN)
LATE = (None, plain((1,)), UP)
OPEN = (1, ((0, ()), (2, ())))
HOME = ((1, None), (2, 1), (2, 2), (2, None))
PAIR = ((4, 4), ((0, 1), (1, 0)))
ENDLESS = (plain((0, 1) * 6 + (0,)),) * 4


def told_error(net, standing, value):
    """What move_error tells, read once more from the document."""
    if type(value) is not tuple or len(value) != 2:
        return "form"
    train, target = value
    if type(train) is not int or train not in range(len(standing)):
        return "form"
    if type(target) is not int and target is not None:
        return "form"
    if standing[train] is None:
        return "gone"
    wanted = [branch[0] for branch in standing[train][1]]
    if target is None:
        return "way" if wanted else None
    if target not in wanted:
        return "way"
    there = [item for item in standing if item is not None and item[0] == target]
    return "full" if len(there) >= net[0][target] else None


def some_moves(chance, net, standing):
    """Values of which some are moves that can be made."""
    trains = list(range(-1, len(standing) + 1)) + integers_not()
    targets = list(range(-1, len(net[0]) + 1)) + [None, 10 ** 399, -10 ** 399] + integers_not()
    value = (chance.choice(trains), chance.choice(targets))
    return chance.choice([value] * 12 + [list(value), value + (0,), value[:1], value[::-1], (value, 0), {value[0]: 0} if value[0] == 0 else ()])


def some_run(chance, net, standing):
    """A run of moves that are chosen by chance, until no move can be made, or not as long."""
    run = []
    while moves(net, standing) and chance.random() < 0.97:
        run.append(chance.choice(moves(net, standing)))
        standing = told_behind(standing, run[-1])
    return tuple(run), standing


class MoveError(OfficeCase):
    def test_moves(self):
        for value in ((0, 1), (1, 1), (2, 1), (3, 1)):
            self.gives(None, move_error, BOTH, FACING, value)
        self.gives(None, move_error, BOTH, LATE, (1, None))
        self.gives(None, move_error, BOTH, (OPEN, UP), (0, 0))
        self.gives(None, move_error, BOTH, (OPEN, UP), (0, 2))
        self.gives(None, move_error, TEN, (None,) * 39 + ((9, ((8, ()),)),), (39, 8))

    def test_form(self):
        for value in any_values():
            pair = isinstance(value, tuple) and value == (0, 0) and len(value) == 2
            self.gives("way" if pair else "form", move_error, BOTH, FACING, value)
            self.gives("form", move_error, BOTH, FACING, (value, 1))
            integer = isinstance(value, int) and not isinstance(value, bool)
            self.gives("way" if integer or value is None else "form", move_error, BOTH, FACING, (0, value))
        for wrong in integers_not() + [-1, 4, 40, 10 ** 399, -10 ** 399]:
            self.gives("form", move_error, BOTH, FACING, (wrong, 1))
            self.gives("form", move_error, BOTH, FACING, (wrong, None))
        for wrong in integers_not()[1:]:
            self.gives("form", move_error, BOTH, FACING, (0, wrong))
        for wrong in ([0, 1], (0, 1, 1), (0,), (), {0: 1}, "01", "0>1", 0, None, ((0, 1), 1)):
            self.gives("form", move_error, BOTH, FACING, wrong)
        for value in ((0, 1), (0, None), (-1, 0)):
            self.gives("form", move_error, BOTH, (), value)

    def test_form_comes_first(self):
        self.gives("form", move_error, BOTH, (None,), (0, "1"))
        self.gives("form", move_error, BOTH, (None,), (0, True))
        self.gives("form", move_error, BOTH, LATE, (3, 10 ** 399))

    def test_gone(self):
        for target in (0, 1, 2, 3, -1, None, 10 ** 399):
            self.gives("gone", move_error, BOTH, LATE, (0, target))
        self.gives("gone", move_error, BOTH, (None,) * 40, (39, None))

    def test_way(self):
        for target in (0, 2, 3, 10, -1, -2, None, 10 ** 399, -10 ** 399):
            self.gives("way", move_error, BOTH, FACING, (0, target))
        for target in (0, 1, 2, 3, -1, 10 ** 399):
            self.gives("way", move_error, BOTH, LATE, (1, target))
        self.gives("way", move_error, BOTH, (OPEN,), (0, 1))
        self.gives("way", move_error, BOTH, (OPEN,), (0, None))
        self.gives("way", move_error, BOTH, (UP,), (0, 2))

    def test_way_comes_ahead_of_full(self):
        self.gives("way", move_error, BOTH, (UP, UP, DOWN), (2, 0))
        self.gives("way", move_error, BOTH, (UP, UP, DOWN), (0, 0))
        self.gives("way", move_error, LOOP, (plain((0, 1)), plain((2, 0))), (0, 2))

    def test_full(self):
        self.gives("full", move_error, BOTH, LATE, (2, 1))
        self.gives("full", move_error, BOTH, FACING + (plain((1, 2)),), (4, 2))
        self.gives("full", move_error, BOTH, (UP, UP, OPEN), (2, 0))
        self.gives(None, move_error, BOTH, (UP, UP, OPEN), (2, 2))
        self.gives(None, move_error, BOTH, (UP, None, OPEN), (2, 0))
        self.gives(None, move_error, PAIR, ((0, ()),) * 3 + (plain((1, 0)),), (3, 0))
        self.gives("full", move_error, PAIR, ((0, ()),) * 4 + (plain((1, 0)),), (4, 0))

    def test_values_of_all_kinds(self):
        chance = random.Random(71)
        for net, standing in some_standings(72, 400):
            for _ in range(15):
                value = some_moves(chance, net, standing)
                self.assertEqual(move_error(net, standing, value), told_error(net, standing, value), (net, standing, value))


class Moved(OfficeCase):
    def test_moved(self):
        self.gives(((1, ((2, ()),)), UP, DOWN, DOWN), moved, BOTH, FACING, (0, 1))
        self.gives((None, None, UP), moved, BOTH, LATE, (1, None))
        self.gives(((0, ()), UP), moved, BOTH, (OPEN, UP), (0, 0))
        self.gives(((2, ()), UP), moved, BOTH, (OPEN, UP), (0, 2))
        self.gives((None,) * 39 + ((8, ()),), moved, TEN, (None,) * 39 + ((9, ((8, ()),)),), (39, 8))

    def test_bad_moves(self):
        for error, standing, move in (
            ("form", FACING, [0, 1]), ("form", FACING, (True, 1)), ("form", FACING, None), ("form", (), (0, None)),
            ("gone", LATE, (0, 1)), ("way", FACING, (0, None)), ("way", LATE, (1, 0)), ("full", LATE, (2, 1)),
        ):
            self.refuses(BadMove, {"error": error}, moved, BOTH, standing, move)
        for value in any_values():
            if value != (0, 0):
                self.refuses(BadMove, {"error": "form"}, moved, BOTH, FACING, value)

    def test_moves(self):
        self.gives(((0, 1), (1, 1), (2, 1), (3, 1)), moves, BOTH, FACING)
        self.gives(((1, None),), moves, BOTH, LATE)
        self.gives((), moves, BOTH, ())
        self.gives((), moves, BOTH, (None, None))
        self.gives(((0, 0), (0, 2)), moves, BOTH, (OPEN, UP))
        self.gives(((1, None), (2, 0)), moves, BOTH, (DOWN, (2, ()), OPEN))
        self.gives((), moves, PAIR, (plain((0, 1)),) * 4 + (plain((1, 0)),) * 4)
        self.gives(((0, None), (1, 1), (1, 2), (1, 9)), moves, TEN, ((0, ()), (0, ((1, ()), (2, ()), (9, ())))))

    def test_moves_are_all_that_can_be_made(self):
        for net, standing in some_standings(73, 400):
            values = [(train, target) for train in range(len(standing)) for target in (None, *range(len(net[0])))]
            told = [value for value in values if told_error(net, standing, value) is None]
            self.assertEqual(moves(net, standing), tuple(told), (net, standing))
            for value in told:
                behind = moved(net, standing, value)
                self.assertEqual(behind, told_behind(standing, value))
                self.assertIsNone(standing_error(net, behind))


class Runs(OfficeCase):
    def test_runs(self):
        for run, behind in (((), LATE), (HOME, (None,) * 3), (HOME[:1], (None, None, UP)), (HOME[:3], (None, None, (2, ())))):
            self.gives(None, run_error, BOTH, LATE, run)
            self.gives(behind, led, BOTH, LATE, run)
        self.gives(None, run_error, BOTH, (), ())
        self.gives((), led, BOTH, (), ())

    def test_form(self):
        for value in any_values() + [[], list(HOME), {}, "", "1!", None, 0, True, (None,) * 601]:
            error = "form"
            if isinstance(value, tuple) and len(value) <= 600:
                error = (0, "form") if value else None
            self.gives(error, run_error, BOTH, LATE, value)
            if error is None:
                self.gives(LATE, led, BOTH, LATE, value)
            else:
                self.refuses(BadRun, {"error": error}, led, BOTH, LATE, value)

    def test_600_items_and_601(self):
        self.gives((0, "form"), run_error, BOTH, LATE, (None,) * 600)
        self.gives("form", run_error, BOTH, LATE, (None,) * 601)
        self.gives((4, "gone"), run_error, BOTH, LATE, HOME + ((1, None),) * 596)
        self.gives("form", run_error, BOTH, LATE, HOME + ((1, None),) * 597)
        self.gives("form", run_error, BOTH, (), (None,) * 601)
        self.refuses(BadRun, {"error": (4, "gone")}, led, BOTH, LATE, HOME + ((1, None),) * 596)
        self.refuses(BadRun, {"error": "form"}, led, BOTH, LATE, HOME + ((1, None),) * 597)

    def test_a_long_run(self):
        run = tuple([(train, 1 - step % 2) for step in range(12) for train in range(4)])
        run += tuple([(train, None) for train in range(4)])
        self.assertEqual(len(run), steps_left(ENDLESS))
        self.gives(None, run_error, PAIR, ENDLESS, run)
        self.gives((None,) * 4, led, PAIR, ENDLESS, run)
        self.gives((52, "gone"), run_error, PAIR, ENDLESS, run + ((0, None),))

    def test_first_item_that_cannot_be_made(self):
        self.gives((1, "gone"), run_error, BOTH, LATE, ((1, None), (1, None)))
        self.gives((1, "full"), run_error, BOTH, FACING, ((0, 1), (2, 1)))
        self.gives((0, "full"), run_error, BOTH, LATE, ((2, 1), (1, None)))
        self.gives((2, "form"), run_error, BOTH, LATE, ((1, None), (2, 1), [2, 2], (9, 9)))
        self.gives((2, "way"), run_error, BOTH, LATE, ((1, None), (2, 1), (2, None)))
        self.gives((4, "form"), run_error, BOTH, LATE, HOME + (None,))
        self.refuses(BadRun, {"error": (1, "full")}, led, BOTH, FACING, ((0, 1), (2, 1)))
        self.refuses(BadRun, {"error": (1, "gone")}, led, BOTH, LATE, ((1, None), (1, None)))
        self.refuses(BadRun, {"error": (0, "form")}, led, BOTH, (), ((0, None),))

    def test_runs_by_chance(self):
        chance = random.Random(74)
        for net, standing in some_standings(75, 150):
            run, behind = some_run(chance, net, standing)
            self.assertIsNone(run_error(net, standing, run))
            self.assertEqual(led(net, standing, run), behind)
            for _ in range(4):
                spot = chance.randint(0, len(run))
                item = some_moves(chance, net, standing)
                wrong = run[:spot] + (item,) + run[spot:]
                now, error = standing, None
                for place, move in enumerate(wrong):
                    told = told_error(net, now, move)
                    if told is not None:
                        error = (place, told)
                        break
                    now = told_behind(now, move)
                self.assertEqual(run_error(net, standing, wrong), error, (net, standing, wrong))


class WhatHolds(OfficeCase):
    def test_each_move(self):
        for net, standing in some_standings(76, 300):
            for train, target in moves(net, standing):
                behind = moved(net, standing, (train, target))
                self.assertIsNone(standing_error(net, behind))
                self.assertEqual(len(behind), len(standing))
                less = steps_left(standing) - steps_left(behind)
                self.assertGreater(less, 0)
                if target is None:
                    self.assertEqual(less, 1)
                else:
                    most = max(longest(branch) for branch in standing[train][1])
                    self.assertEqual(less == 1, longest(behind[train]) == most)

    def test_no_run_is_longer_than_steps_left(self):
        chance = random.Random(77)
        for net, standing in some_standings(78, 150):
            run, behind = some_run(chance, net, standing)
            self.assertLessEqual(len(run) + steps_left(behind), steps_left(standing))
            self.assertLessEqual(steps_left(standing), 520)

    def test_where_no_move_can_be_made(self):
        chance = random.Random(79)
        still = 0
        for net, standing in some_standings(80, 400):
            _, behind = some_run(chance, net, standing)
            for now in (standing, behind):
                if moves(net, now) == ():
                    for item in now:
                        if item is not None:
                            self.assertNotEqual(item[1], ())
                            self.assertEqual({told_error(net, now, (now.index(item), branch[0])) for branch in item[1]}, {"full"})
                            still += 1
        self.assertGreater(still, 100)


if __name__ == "__main__":
    unittest.main()

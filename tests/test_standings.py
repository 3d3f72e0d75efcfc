"""Standings: [A3], [C1] to [C4]."""

import random
import unittest

from support import BOTH, LOOP, TEN, OfficeCase, any_values, integers_not, some_standings

from singlegates.standings import (
    all_gone, free_tracks, standing_error, steps_left, trains_at, wants, without,
)
from singlegates.ways import plain, walks, way_error

UP, DOWN = plain((0, 1, 2)), plain((2, 1, 0))
FACING = (UP, UP, DOWN, DOWN)
FORK = (0, ((1, ((0, ()), (2, ()))),))
ONE = ((1,), ())
FOUR = ((4,), ())
FORTY = tuple([plain((station, 9 - station)) for station in range(10) for _ in range(4)])


def told_error(net, value):
    """What standing_error tells, read once more from the document."""
    if type(value) is not tuple or len(value) not in range(41):
        return "form"
    for train, item in enumerate(value):
        if item is not None and way_error(net, item) is not None:
            return ("way", train, way_error(net, item))
    firsts = [item[0] for item in value if item is not None]
    over = [station for station, many in enumerate(net[0]) if firsts.count(station) > many]
    return ("full", over[0]) if over else None


def spoilt(chance, net, standing):
    """The standing with a fault, or with none."""
    items = list(standing) or [None]
    place = chance.randrange(len(items))
    station = chance.randrange(len(net[0]))
    wrong = [0, True, False, (), [], {}, "", ".", "0", (0,), [0, ()], (0, []), (0, (), ()), (True, ()), (None, ())]
    wrong += [(len(net[0]), ()), (-1, ()), (station, ((station, ()),)), ((), 0), (items[place],), [items[place]]]
    put_in = chance.choice(wrong + [(station, ())] * 20 + [None] * 3 + items)
    items[place:place + chance.randint(0, 1)] = [put_in] * chance.choice((1, 1, 2, 41))
    return tuple(items) if chance.random() < 0.95 else items


class StandingError(OfficeCase):
    def test_standings(self):
        for value in (FACING, (), (None,), (None, FORK, None), (UP,), (None,) * 40, ((1, ()),)):
            self.gives(None, standing_error, BOTH, value)
        for value in ((), (None,), ((0, ()),), (None, (0, ()), None), (None,) * 39 + ((0, ()),)):
            self.gives(None, standing_error, ONE, value)
        self.gives(None, standing_error, FOUR, ((0, ()),) * 4 + (None,) * 36)
        self.gives(None, standing_error, TEN, FORTY)

    def test_form(self):
        for value in any_values():
            self.gives(None if value == () and type(value) is tuple else told_error(BOTH, value), standing_error, BOTH, value)
        for value in [[], [None], list(FACING), {}, {0: UP}, "", ".", "0-1-2", 0, None, True, (None,) * 41, FORTY + (None,)]:
            self.gives("form", standing_error, BOTH, value)
            self.gives("form", standing_error, ONE, value)
        self.gives(None, standing_error, BOTH, FORTY[:0] + (None,) * 40)

    def test_form_comes_first(self):
        self.gives("form", standing_error, BOTH, (0,) * 41)
        self.gives("form", standing_error, BOTH, (UP,) * 41)
        self.gives("form", standing_error, BOTH, [0])

    def test_way(self):
        self.gives(("way", 1, "form"), standing_error, BOTH, (UP, 0))
        self.gives(("way", 1, ("line", 1)), standing_error, BOTH, (UP, plain((0, 2))))
        self.gives(("way", 0, "steps"), standing_error, BOTH, ((0, (plain((1,) + (0, 1) * 6),)),))
        self.gives(("way", 2, ("station", 0)), standing_error, BOTH, (None, UP, (3, ()), 0))
        self.gives(("way", 0, ("station", 0)), standing_error, ONE, ((1, ()),))
        self.gives(("way", 1, ("order", 2)), standing_error, BOTH, (DOWN, (1, ((2, ()), (0, ())))))
        self.gives(("way", 39, "form"), standing_error, BOTH, (None,) * 39 + ((),))
        self.gives(("way", 0, ("line", 1)), standing_error, LOOP, (DOWN,))
        many = (1, ((0, (plain((1,) + (0, 1) * 5),)), (2, (plain((1,) + (2, 1) * 5),))))
        self.gives(None, standing_error, BOTH, (many,))
        self.gives(("way", 0, "pairs"), standing_error, BOTH, ((1, ((0, (many,)), (2, (many,)))),))
        for value in any_values():
            if value is not None:
                self.gives(("way", 1, way_error(BOTH, value)), standing_error, BOTH, (None, value, 0))

    def test_bools_are_no_stations(self):
        self.gives(("way", 0, ("station", 0)), standing_error, BOTH, ((True, ()),))
        self.gives(("way", 1, ("station", 1)), standing_error, BOTH, (None, (0, ((True, ()),))))
        for wrong in integers_not() + [-1, 3, 10 ** 399]:
            self.gives(("way", 0, ("station", 0)), standing_error, BOTH, ((wrong, ()),))

    def test_what_stands_for_gone_is_none_alone(self):
        for wrong in (False, 0, "", ".", (), [], {}, "None"):
            self.gives(("way", 0, "form"), standing_error, BOTH, (wrong, UP))

    def test_full(self):
        self.gives(("full", 0), standing_error, BOTH, (UP, UP, UP))
        self.gives(("full", 1), standing_error, BOTH, (plain((1,)), plain((1, 0))))
        self.gives(("full", 1), standing_error, BOTH, (DOWN, DOWN, DOWN, plain((1,)), plain((1, 0))))
        self.gives(("full", 2), standing_error, BOTH, (None, DOWN, DOWN, DOWN))
        self.gives(("full", 0), standing_error, ONE, ((0, ()),) * 2)
        self.gives(("full", 0), standing_error, FOUR, ((0, ()),) * 5)
        self.gives(("full", 9), standing_error, TEN, FORTY[4:] + (FORTY[-1],))
        self.gives(None, standing_error, TEN, FORTY[4:] + (FORTY[0],))

    def test_way_comes_ahead_of_full(self):
        self.gives(("way", 3, "form"), standing_error, BOTH, (UP, UP, UP, 0))
        self.gives(("way", 2, ("station", 0)), standing_error, ONE, ((0, ()), (0, ()), (1, ())))

    def test_spoilt_standings(self):
        chance = random.Random(61)
        for net, standing in some_standings(62, 400):
            self.assertIsNone(standing_error(net, standing))
            for _ in range(5):
                value = spoilt(chance, net, standing)
                self.assertEqual(repr(standing_error(net, value)), repr(told_error(net, value)), (net, value))


class Looks(OfficeCase):
    def test_trains_at(self):
        self.gives((2, 3), trains_at, FACING, 2)
        self.gives((0, 1), trains_at, FACING, 0)
        self.gives((), trains_at, FACING, 1)
        self.gives((), trains_at, (), 0)
        self.gives((), trains_at, (None, None), 0)
        self.gives((1, 3), trains_at, (None, UP, DOWN, FORK), 0)
        self.gives((36, 37, 38, 39), trains_at, FORTY, 9)

    def test_free_tracks(self):
        for station, many in enumerate((0, 1, 0)):
            self.gives(many, free_tracks, BOTH, FACING, station)
        self.gives(1, free_tracks, ONE, (), 0)
        self.gives(0, free_tracks, ONE, ((0, ()), None), 0)
        self.gives(4, free_tracks, FOUR, (None,), 0)
        self.gives(1, free_tracks, FOUR, ((0, ()),) * 3, 0)
        for station in range(10):
            self.gives(0, free_tracks, TEN, FORTY, station)
            self.gives(4, free_tracks, TEN, (None,) * 40, station)

    def test_wants(self):
        self.gives((1,), wants, FACING, 3)
        ahead = ((1, ((0, ()), (2, ()))), None, (2, ()))
        for train, told in enumerate(((0, 2), (), ())):
            self.gives(told, wants, ahead, train)
        self.gives((1, 4, 8), wants, ((0, ((1, ()), (4, ((2, ()),)), (8, ()))),), 0)
        self.gives((0,), wants, FORTY, 39)

    def test_steps_left(self):
        self.gives(12, steps_left, FACING)
        self.gives(4, steps_left, (FORK, None, (2, ())))
        self.gives(0, steps_left, ())
        self.gives(0, steps_left, (None, None))
        self.gives(1, steps_left, ((0, ()),))
        self.gives(3, steps_left, ((1, ((0, ()), (2, ((1, ()),)))),))
        self.gives(520, steps_left, (plain((0, 1) * 6 + (0,)),) * 40)

    def test_all_gone(self):
        for standing in ((), (None,), (None, None), (None,) * 40):
            self.gives(True, all_gone, standing)
        for standing in (FACING, ((0, ()),), (None, (0, ())), ((0, ()), None), (None,) * 39 + (UP,), FORTY):
            self.gives(False, all_gone, standing)

    def test_without(self):
        self.gives((None, UP, DOWN, None), without, FACING, (0, 3))
        self.gives(FACING, without, FACING, ())
        self.gives((None,) * 4, without, FACING, (0, 1, 2, 3))
        self.gives((None, None, DOWN), without, (None, UP, DOWN), (0, 1))
        self.gives((), without, (), ())
        self.gives(FORTY[:39] + (None,), without, FORTY, (39,))

    def test_all_agree_with_the_ways(self):
        chance = random.Random(63)
        for net, standing in some_standings(64, 200):
            left = [item for item in standing if item is not None]
            self.assertEqual(all_gone(standing), not left)
            self.assertEqual(steps_left(standing), sum(max(map(len, walks(item))) for item in left))
            for station, many in enumerate(net[0]):
                there = [k for k, item in enumerate(standing) if item is not None and item[0] == station]
                self.assertEqual(trains_at(standing, station), tuple(there))
                self.assertEqual(free_tracks(net, standing, station), many - len(there))
            for train, item in enumerate(standing):
                told = {walk[1] for walk in walks(item) if len(walk) > 1} if item is not None else ()
                self.assertEqual(wants(standing, train), tuple(sorted(told)))
            trains = tuple(sorted(chance.sample(range(len(standing)), chance.randint(0, len(standing)))))
            fewer = without(standing, trains)
            self.assertIsNone(standing_error(net, fewer))
            self.assertEqual(len(fewer), len(standing))
            for train, item in enumerate(standing):
                self.assertEqual(fewer[train], None if train in trains else item)


if __name__ == "__main__":
    unittest.main()

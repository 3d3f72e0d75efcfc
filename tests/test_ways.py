"""Ways: [A3], [B1] to [B4], and of [B6] what holds of them."""

import random
import unittest

from support import (
    BOTH, LOOP, TEN, OfficeCase, any_values, counted, integers_not, leaves, some_nets, some_ways, spoilt,
)

from singlegates.errors import Unfit
from singlegates.nets import nexts
from singlegates.ways import choice, ends, is_plain, longest, plain, shortest, stops, visits, walks, way_error

FORK = (0, ((1, ((0, ()), (2, ()))),))
SHORT = (1, ((0, ()), (2, ((1, ()),))))
TWELVE = (1, ((0, ((1, ((0, ((1, ((0, ((1, ((0, ((1, ((0, ((1, ((0, ((1, ()),)),)),)),)),)),)),)),)),)),)),)),))
TWO = ((1, 1), ((0, 1), (1, 0)))


def told_error(net, value):
    """What way_error tells, read once more from the document."""
    pairs = []

    def number(told, origin, ahead, depth):
        if type(told) is not tuple or len(told) != 2 or type(told[1]) is not tuple or len(told[1]) > 3:
            raise TypeError
        pairs.append((told[0], origin, ahead, depth))
        for place, branch in enumerate(told[1]):
            number(branch, told, told[1][place - 1] if place else None, depth + 1)

    try:
        number(value, None, None, 0)
    except TypeError:
        return "form"
    if len(pairs) > 40:
        return "pairs"
    if max(pair[3] for pair in pairs) > 12:
        return "steps"
    wrong = [k for k, pair in enumerate(pairs) if type(pair[0]) is not int or pair[0] not in range(len(net[0]))]
    if wrong:
        return ("station", wrong[0])
    wrong = [k for k, pair in enumerate(pairs) if pair[1] is not None and pair[0] not in nexts(net, pair[1][0])]
    if wrong:
        return ("line", wrong[0])
    wrong = [k for k, pair in enumerate(pairs) if pair[2] is not None and not pair[0] > pair[2][0]]
    return ("order", wrong[0]) if wrong else None


class WayError(OfficeCase):
    def test_ways(self):
        for value in (FORK, (2, ()), (0, ()), SHORT, TWELVE):
            self.gives(None, way_error, BOTH, value)
        self.gives(None, way_error, ((1,), ()), (0, ()))
        self.gives(None, way_error, TEN, (9, leaves(0, 4, 8)))
        self.gives(None, way_error, LOOP, (2, ((0, ((1, ((2, ()),)),)),)))

    def test_form(self):
        for value in any_values():
            pair = isinstance(value, tuple) and len(value) == 2 and value[1] == ()
            self.gives(("station", 0) if pair else "form", way_error, BOTH, value)
            self.gives(("station", 1) if pair else "form", way_error, BOTH, (0, (value,)))
        for value in [(0,), (), 0, (0, (), ()), [0, ()], (0, []), (0, None), (0, {}), (0, ""), (0, 0), ((), 0)]:
            self.gives("form", way_error, BOTH, value)
            self.gives("form", way_error, BOTH, (0, (value,)))
            self.gives("form", way_error, BOTH, (1, ((0, ()), value)))
            self.gives("form", way_error, BOTH, (1, (value, (2, ()))))
            self.gives("form", way_error, BOTH, (0, ((1, ((2, ()), value)),)))

    def test_choices(self):
        self.gives(None, way_error, TEN, (0, leaves(1, 2, 3)))
        self.gives("form", way_error, TEN, (0, leaves(1, 2, 3, 4)))
        self.gives("form", way_error, TEN, (0, ((1, leaves(2, 3, 4, 5)),)))

    def test_form_comes_first(self):
        self.gives("form", way_error, BOTH, (9, ((9, ()), (9, 0))))
        self.gives("form", way_error, BOTH, (1, ((2, ()), (0, ()), 0)))
        deep = (0, 0)
        for _ in range(13):
            deep = (0, (deep,))
        self.gives("form", way_error, BOTH, deep)
        many = tuple([(place, tuple([(under, leaves(0, 1, 2)) for under in (0, 1, 2)])) for place in (0, 1, 2)])
        self.gives("form", way_error, BOTH, (0, ((0, many), (1, many), (2, many[:2] + ((2, [()]),)))))

    def test_pairs(self):
        for many in (13, 14, 39, 40, 41, 42, 48):
            value = counted(many)
            self.assertEqual(stops(value), many)
            self.gives(None if many <= 40 else "pairs", way_error, TEN, value)
        self.gives("pairs", way_error, LOOP, counted(41))

    def test_pairs_are_counted_where_they_stand(self):
        value = (1, leaves(0, 2))
        for told in (None, None, None, "pairs", "pairs"):
            self.gives(told, way_error, BOTH, value)
            value = (1, ((0, (value,)), (2, (value,))))

    def test_steps(self):
        self.gives(None, way_error, BOTH, TWELVE)
        self.gives("steps", way_error, BOTH, (0, (TWELVE,)))
        self.gives("steps", way_error, TEN, (9, ((0, (TWELVE,)), (3, ()))))
        self.gives("steps", way_error, TEN, (9, ((2, ()), (3, (TWELVE,)))))
        self.gives(None, way_error, TEN, (9, TWELVE[1] + leaves(3)))
        deep = (0, ())
        for _ in range(40):
            deep = (5, (deep,))
        self.gives("pairs", way_error, BOTH, deep)
        self.gives("steps", way_error, BOTH, deep[1][0])
        for _ in range(3000):
            deep = (5, (deep,))
        self.assertEqual(way_error(BOTH, deep), "pairs")

    def test_pairs_come_ahead_of_steps_and_these_of_stations(self):
        self.gives("pairs", way_error, BOTH, (9, (TWELVE, TWELVE, (0, (TWELVE,)))))
        self.gives("steps", way_error, BOTH, (9, (TWELVE, (0, (TWELVE,)))))
        self.gives("steps", way_error, BOTH, (None, ((True, (TWELVE,)),)))

    def test_station(self):
        for wrong in integers_not() + [-1, 3, 10, 10 ** 399]:
            self.gives(("station", 0), way_error, BOTH, (wrong, ()))
            self.gives(("station", 1), way_error, BOTH, (0, ((wrong, ()),)))
            self.gives(("station", 3), way_error, BOTH, (0, ((1, ((0, ()), (wrong, ()))),)))
            self.gives(("station", 2), way_error, BOTH, (1, ((0, ((wrong, ()),)), (wrong, ()))))
        self.gives(None, way_error, ((1,), ()), (0, ()))
        self.gives(("station", 0), way_error, ((1,), ()), (1, ()))
        self.gives(None, way_error, TEN, (9, ()))
        self.gives(("station", 0), way_error, TEN, (10, ()))

    def test_station_comes_ahead_of_line(self):
        self.gives(("station", 2), way_error, BOTH, (0, ((2, ((3, ()),)),)))
        self.gives(("station", 3), way_error, BOTH, (1, ((2, ()), (0, ((True, ()),)))))

    def test_line(self):
        self.gives(("line", 1), way_error, BOTH, (0, ((2, ()),)))
        self.gives(("line", 1), way_error, BOTH, (0, ((0, ()),)))
        self.gives(("line", 4), way_error, BOTH, (1, ((0, ((1, ()),)), (2, ((0, ()),)))))
        self.gives(("line", 2), way_error, BOTH, (1, ((0, ((2, ()),)), (2, ((0, ()),)))))
        self.gives(("line", 1), way_error, LOOP, (1, ((0, ()),)))
        self.gives(None, way_error, LOOP, (0, ((1, ()),)))
        self.gives(("line", 3), way_error, TWO, (0, ((1, ((0, ((0, ()),)),)),)))
        self.gives(("line", 1), way_error, ((1,), ()), (0, ((0, ()),)))

    def test_line_comes_ahead_of_order(self):
        self.gives(("line", 4), way_error, BOTH, (1, ((2, ()), (0, ((1, ((1, ()),)),)))))
        self.gives(("line", 2), way_error, BOTH, (1, ((2, ()), (1, ()))))

    def test_order(self):
        self.gives(("order", 2), way_error, BOTH, (1, leaves(2, 0)))
        self.gives(("order", 2), way_error, BOTH, (1, leaves(0, 0)))
        self.gives(("order", 3), way_error, TEN, (0, leaves(4, 5, 5)))
        self.gives(("order", 3), way_error, TEN, (0, leaves(4, 6, 5)))
        self.gives(("order", 2), way_error, TEN, (0, leaves(5, 4, 6)))
        self.gives(("order", 2), way_error, TEN, (0, leaves(5, 4, 3)))
        self.gives(("order", 6), way_error, TEN, (0, ((4, leaves(5, 6)), (7, leaves(1, 0)), (2, ()))))
        self.gives(("order", 4), way_error, TEN, (0, ((4, leaves(5, 6)), (3, leaves(1, 0)), (9, ()))))
        self.gives(None, way_error, TEN, (0, ((4, leaves(5, 6)), (7, leaves(0, 1)), (8, leaves(0, 1)))))

    def test_spoilt_ways(self):
        chance = random.Random(11)
        for net in some_nets(12, 300):
            for value in some_ways(chance, net, 8):
                self.assertIsNone(way_error(net, value))
                for _ in range(4):
                    wrong = spoilt(chance, value)
                    self.assertEqual(repr(way_error(net, wrong)), repr(told_error(net, wrong)), (net, wrong))
                    wrong = spoilt(chance, wrong)
                    self.assertEqual(repr(way_error(net, wrong)), repr(told_error(net, wrong)), (net, wrong))


class Plain(OfficeCase):
    def test_plain(self):
        self.gives((0, ((1, ((2, ()),)),)), plain, (0, 1, 2))
        self.gives((7, ()), plain, (7,))
        self.gives((0, ((0, ()),)), plain, (0, 0))
        self.gives((9, ((0, ()),)), plain, (9, 0))
        self.gives(TWELVE, plain, (1,) + (0, 1) * 6)

    def test_plain_is_unfit(self):
        for value in any_values():
            if value != (0,) and value != (0, 0, 0):
                self.refuses(Unfit, {}, plain, value)
        for wrong in integers_not() + [-1, 10, 10 ** 399]:
            for stations in ((wrong,), (wrong, 1), (0, wrong), (0, 1, wrong, 3)):
                self.refuses(Unfit, {}, plain, stations)
        for wrong in [(), [0, 1], [0], "01", {0: 1}, 0, None]:
            self.refuses(Unfit, {}, plain, wrong)

    def test_plain_has_13_stations_at_most(self):
        self.gives(12, longest, plain((0, 1) * 6 + (9,)))
        self.refuses(Unfit, {}, plain, (0, 1) * 7)
        self.refuses(Unfit, {}, plain, (0,) * 3999)

    def test_is_plain(self):
        for way in (plain((0, 1, 0)), (5, ()), TWELVE, plain((3, 3))):
            self.gives(True, is_plain, way)
        for way in (FORK, SHORT, (1, leaves(0, 2)), (1, leaves(0, 2, 3)), (0, (FORK,)), (1, ((0, ()), (2, (TWELVE,))))):
            self.gives(False, is_plain, way)

    def test_choice(self):
        self.gives((1, leaves(0, 2)), choice, FORK, 1)
        self.gives((0, ()), choice, SHORT, 0)
        self.gives((2, ((1, ()),)), choice, SHORT, 2)
        for place, station in enumerate((3, 6, 9)):
            way = (0, ((3, leaves(1)), (6, ()), (9, leaves(2))))
            self.gives(way[1][place], choice, way, station)

    def test_choice_is_unfit(self):
        for wrong in any_values() + integers_not() + [1, 3, 9, 10]:
            self.refuses(Unfit, {}, choice, SHORT, wrong)
            self.refuses(Unfit, {}, choice, (1, ()), wrong)
        self.refuses(Unfit, {}, choice, FORK, 0)
        self.refuses(Unfit, {}, choice, FORK, 2)
        self.refuses(Unfit, {}, choice, (0, leaves(1)), True)
        self.refuses(Unfit, {}, choice, (1, leaves(0)), False)
        self.refuses(Unfit, {}, choice, (0, leaves(1)), (1, ()))


class Looks(OfficeCase):
    def test_stops(self):
        for many, way in ((4, FORK), (4, SHORT), (13, TWELVE), (1, (5, ())), (40, counted(40)), (4, (0, leaves(1, 2, 3)))):
            self.gives(many, stops, way)

    def test_longest(self):
        for many, way in ((2, FORK), (2, SHORT), (12, TWELVE), (0, (5, ())), (3, counted(40)), (1, (0, leaves(1, 2, 3)))):
            self.gives(many, longest, way)
        self.gives(3, longest, (0, ((1, ((0, leaves(1)),)), (2, leaves(0)), (3, ()))))

    def test_shortest(self):
        for many, way in ((2, FORK), (1, SHORT), (12, TWELVE), (0, (5, ())), (1, (0, leaves(1, 2, 3)))):
            self.gives(many, shortest, way)
        self.gives(2, shortest, (0, ((1, ((0, leaves(1)),)), (2, leaves(0)), (3, ((4, leaves(0)),)))))

    def test_ends(self):
        for told, way in (((0, 2), FORK), ((0, 1), SHORT), ((1,), TWELVE), ((5,), (5, ())), ((1, 2, 3), (0, leaves(1, 2, 3)))):
            self.gives(told, ends, way)
        self.gives((0, 8), ends, (1, ((3, leaves(8)), (7, leaves(0)), (9, leaves(0, 8)))))

    def test_visits(self):
        for told, way in (((0, 1, 2), FORK), ((0, 1, 2), SHORT), ((0, 1), TWELVE), ((5,), (5, ()))):
            self.gives(told, visits, way)
        self.gives((0, 1, 3, 7, 8, 9), visits, (1, ((3, leaves(8)), (7, leaves(0)), (9, leaves(0, 8)))))

    def test_walks(self):
        self.gives(((0, 1, 0), (0, 1, 2)), walks, FORK)
        self.gives(((1, 0), (1, 2, 1)), walks, SHORT)
        self.gives(((1,) + (0, 1) * 6,), walks, TWELVE)
        self.gives(((5,),), walks, (5, ()))
        self.gives(((1, 3, 8), (1, 7), (1, 9, 0), (1, 9, 8)), walks, (1, ((3, leaves(8)), (7, ()), (9, leaves(0, 8)))))

    def test_all_agree_with_the_walks(self):
        chance = random.Random(13)
        for net in some_nets(14, 200):
            for way in some_ways(chance, net, 8):
                told = walks(way)
                self.assertEqual(told, tuple(sorted(set(told))))
                heads = {walk[:length + 1] for walk in told for length in range(len(walk))}
                self.assertEqual(stops(way), len(heads))
                self.assertEqual(longest(way), max(len(walk) for walk in told) - 1)
                self.assertEqual(shortest(way), min(len(walk) for walk in told) - 1)
                self.assertEqual(ends(way), tuple(sorted({walk[-1] for walk in told})))
                self.assertEqual(visits(way), tuple(sorted({station for walk in told for station in walk})))
                self.assertEqual(is_plain(way), len(told) == 1)


class WhatHolds(OfficeCase):
    def test_walks_of_plain(self):
        chance = random.Random(15)
        for _ in range(200):
            stations = tuple(chance.randrange(10) for _ in range(chance.randint(1, 13)))
            self.assertEqual(walks(plain(stations)), (stations,))
            self.assertTrue(is_plain(plain(stations)))

    def test_ways_and_their_walks(self):
        chance = random.Random(16)
        for net in some_nets(17, 60):
            by_walks = {}
            for way in some_ways(chance, net, 12):
                self.assertEqual(by_walks.setdefault(walks(way), way), way)
                self.assertEqual(len(walks(way)), repr(way).count(", ())"))

    def test_each_choice_is_a_way(self):
        chance = random.Random(18)
        for net in some_nets(19, 60):
            for way in some_ways(chance, net, 6):
                self.assertEqual(way[1], tuple([choice(way, station) for station, _ in way[1]]))
                for branch in way[1]:
                    self.assertIsNone(way_error(net, branch))
                for station in [k for k in range(10) if k not in [branch[0] for branch in way[1]]]:
                    self.assertRaises(Unfit, choice, way, station)


if __name__ == "__main__":
    unittest.main()

"""Nets: [A3] to [A7], and of [A10] what holds of them."""

import random
import unittest

from support import BOTH, LOOP, TEN, OfficeCase, any_values, integers_not, small_nets, some_nets

from singlegates.errors import Unfit
from singlegates.nets import befores, laid, net_error, nexts, shut, turned, wider

ONE = ((4,), ())
PLAIN_TEN = ((1,) * 10, ())


def told_error(value):
    """What net_error tells, read once more from the document, for pairs of tuples."""
    tracks, lines = value
    if len(tracks) not in range(1, 11):
        return "form"
    for station, many in enumerate(tracks):
        if type(many) is not int or many not in (1, 2, 3, 4):
            return ("tracks", station)
    right = {(repr(i), repr(j)) for i in range(len(tracks)) for j in range(len(tracks)) if i != j}
    for spot, line in enumerate(lines):
        if type(line) is not tuple or tuple(map(repr, line)) not in right:
            return ("line", spot)
    for spot, (line, ahead) in enumerate(zip(lines[1:], lines), 1):
        if not line > ahead:
            return ("order", spot)
    return None


def spoilt(chance, net):
    """The net with one or two faults of all kinds."""
    tracks, lines = list(net[0]), list(net[1])
    for _ in range(chance.randint(1, 2)):
        if chance.random() < 0.4:
            tracks[chance.randrange(len(tracks))] = chance.choice((0, 5, -1, True, False, None, "1", (1,), 10 ** 399))
        elif chance.random() < 0.2:
            tracks.append(1)
        else:
            beyond = len(tracks)
            wrong = [(0, 0), (0, beyond), (beyond, 0), (-1, 0), (0, -1), (True, 0), (0, True), (0,), (0, 1, 2), [0, 1], None, "01"]
            lines.insert(chance.randint(0, len(lines)), chance.choice(wrong + lines + lines))
    return tuple(tracks), tuple(lines)


class NetError(OfficeCase):
    def test_nets(self):
        for net in [BOTH, LOOP, ONE, PLAIN_TEN, TEN, ((1,), ()), ((1, 1), ((1, 0),)), ((1, 2, 3, 4), ((0, 3), (3, 0)))]:
            self.gives(None, net_error, net)
        for net in list(small_nets()) + list(some_nets(1, 100)):
            self.assertIsNone(net_error(net), net)

    def test_form(self):
        for value in any_values():
            self.gives("form", net_error, value)
        for value in [(), ((1,),), ((1,), (), ()), [(1,), ()], ([1], ()), ((1,), []), ((1,), None), ((1,), {}), ((), ()), ((1,) * 11, ())]:
            self.gives("form", net_error, value)

    def test_form_comes_first(self):
        self.gives("form", net_error, ((0,), [(0, 0)]))
        self.gives("form", net_error, ([0], ((0, 0),)))
        self.gives("form", net_error, ((5,) * 11, ((0, 0),)))
        self.gives("form", net_error, ((), ((0, 0),)))
        self.gives("form", net_error, ((0,), (), ()))

    def test_tracks(self):
        for wrong in [0, 5, -1, 10 ** 399] + integers_not():
            self.gives(("tracks", 0), net_error, ((wrong,), ()))
            self.gives(("tracks", 2), net_error, ((1, 4, wrong, wrong), ()))
            self.gives(("tracks", 9), net_error, ((1,) * 9 + (wrong,), ()))
        self.gives(("tracks", 1), net_error, ((1, 5, 0), ((0, 0),)))
        self.gives(None, net_error, ((1, 2, 3, 4), ()))

    def test_line(self):
        wrong_lines = [(0, 0), (1, 1), (0, 2), (2, 0), (-1, 0), (0, -1), (0, 10 ** 399), (0,), (0, 1, 0), (), [0, 1], {0: 1}, "01", 1, None, True]
        for wrong in wrong_lines + [(0, item) for item in integers_not()] + [(item, 0) for item in integers_not()]:
            self.gives(("line", 0), net_error, ((1, 1), (wrong,)))
            self.gives(("line", 1), net_error, ((1, 1), ((0, 1), wrong, (1, 0))))
            self.gives(("line", 2), net_error, ((1, 1), ((0, 1), (1, 0), wrong)))
        self.gives(("line", 0), net_error, ((1,) * 10, ((9, 10),)))
        self.gives(None, net_error, ((1,) * 10, ((9, 8),)))
        self.gives(("line", 0), net_error, ((1,), ((0, 0),)))

    def test_order(self):
        self.gives(("order", 1), net_error, ((1, 1), ((1, 0), (0, 1))))
        self.gives(("order", 1), net_error, ((1, 1), ((0, 1), (0, 1))))
        self.gives(("order", 2), net_error, ((1, 1, 1), ((0, 1), (1, 2), (1, 0), (1, 0))))
        self.gives(("order", 2), net_error, ((1, 1, 1), ((0, 1), (2, 0), (1, 2), (2, 0))))
        self.gives(("order", 3), net_error, ((1, 1, 1), ((0, 1), (1, 2), (2, 0), (2, 0))))

    def test_lines_come_ahead_of_order(self):
        self.gives(("line", 2), net_error, ((1, 1), ((1, 0), (0, 1), (0, 0))))
        self.gives(("line", 1), net_error, ((1, 1), ((1, 0), (0, 0), (0, 1))))
        self.gives(("line", 2), net_error, ((1, 1), ((0, 1), (0, 1), None)))

    def test_spoilt_nets(self):
        chance = random.Random(2)
        for net in some_nets(3, 1500):
            value = spoilt(chance, net)
            self.assertEqual(repr(net_error(value)), repr(told_error(value)), value)


class Neighbours(OfficeCase):
    def test_nexts(self):
        self.gives((0, 2), nexts, BOTH, 1)
        self.gives((1,), nexts, BOTH, 2)
        self.gives((2,), nexts, LOOP, 1)
        self.gives((), nexts, ONE, 0)
        self.gives((), nexts, PLAIN_TEN, 9)
        self.gives((0, 1, 2, 3, 5, 6, 7, 8, 9), nexts, TEN, 4)
        self.gives((), nexts, ((1, 1), ((1, 0),)), 0)

    def test_befores(self):
        self.gives((0, 2), befores, BOTH, 1)
        self.gives((2,), befores, LOOP, 0)
        self.gives((), befores, ONE, 0)
        self.gives((), befores, PLAIN_TEN, 9)
        self.gives((0, 1, 2, 3, 4, 5, 6, 7, 8), befores, TEN, 9)
        self.gives((), befores, ((1, 1), ((1, 0),)), 1)
        self.gives((1,), befores, ((1, 1), ((1, 0),)), 0)

    def test_all_small_nets(self):
        for net in small_nets():
            for station in range(len(net[0])):
                self.assertEqual(nexts(net, station), tuple(k for k in range(3) if (station, k) in net[1]))
                self.assertEqual(befores(net, station), tuple(k for k in range(3) if (k, station) in net[1]))


class Changed(OfficeCase):
    def test_turned(self):
        self.gives(((1, 1, 1), ((0, 2), (1, 0), (2, 1))), turned, LOOP)
        for net in (BOTH, ONE, PLAIN_TEN, TEN):
            self.gives(net, turned, net)
        self.gives(((1, 2, 3), ((1, 0), (2, 0))), turned, ((1, 2, 3), ((0, 1), (0, 2))))

    def test_wider(self):
        self.gives(((3, 1, 2), BOTH[1]), wider, BOTH, 0)
        self.gives(((2, 2, 2), BOTH[1]), wider, BOTH, 1)
        self.gives(((2, 1, 3), BOTH[1]), wider, BOTH, 2)
        self.gives(((4,), ()), wider, ((3,), ()), 0)
        self.gives(((1,) * 9 + (2,), ()), wider, PLAIN_TEN, 9)

    def test_wider_is_unfit(self):
        self.refuses(Unfit, {}, wider, ONE, 0)
        for station in range(10):
            self.refuses(Unfit, {}, wider, TEN, station)
        self.refuses(Unfit, {}, wider, ((1, 4, 1), ()), 1)
        self.gives(((1, 4, 2), ()), wider, ((1, 4, 1), ()), 2)

    def test_laid(self):
        self.gives(((1, 1, 1), ((0, 1), (1, 0), (1, 2), (2, 0))), laid, LOOP, 1, 0)
        self.gives(((1, 1, 1), ((0, 1), (0, 2), (1, 2), (2, 0))), laid, LOOP, 0, 2)
        self.gives(((1, 1, 1), ((0, 1), (1, 2), (2, 0), (2, 1))), laid, LOOP, 2, 1)
        self.gives(((2, 1, 2), ((0, 1), (0, 2), (1, 0), (1, 2), (2, 1))), laid, BOTH, 0, 2)
        self.gives(((1,) * 10, ((9, 0),)), laid, PLAIN_TEN, 9, 0)

    def test_laid_is_unfit(self):
        self.refuses(Unfit, {}, laid, LOOP, 0, 1)
        self.refuses(Unfit, {}, laid, LOOP, 2, 2)
        self.refuses(Unfit, {}, laid, ONE, 0, 0)
        for origin in range(10):
            for target in range(10):
                self.refuses(Unfit, {}, laid, TEN, origin, target)

    def test_shut(self):
        self.gives(((2, 1, 2), ((0, 1), (1, 2), (2, 1))), shut, BOTH, 1, 0)
        self.gives(((1, 1, 1), ((0, 1), (1, 2))), shut, LOOP, 2, 0)
        self.gives(((3, 4), ()), shut, ((3, 4), ((1, 0),)), 1, 0)

    def test_shut_is_unfit(self):
        self.refuses(Unfit, {}, shut, LOOP, 1, 0)
        self.refuses(Unfit, {}, shut, LOOP, 0, 0)
        self.refuses(Unfit, {}, shut, ONE, 0, 0)
        for origin in range(10):
            for target in range(10):
                self.refuses(Unfit, {}, shut, PLAIN_TEN, origin, target)


class WhatHolds(OfficeCase):
    def test_turned(self):
        for net in list(small_nets()) + list(some_nets(4, 200)):
            about = turned(net)
            self.assertIsNone(net_error(about))
            self.assertEqual(turned(about), net)
            self.assertEqual(about[0], net[0])
            for station in range(len(net[0])):
                self.assertEqual(nexts(about, station), befores(net, station))
                self.assertEqual(befores(about, station), nexts(net, station))

    def test_laid_and_shut(self):
        for net in list(small_nets()) + list(some_nets(5, 30)):
            stations = range(len(net[0]))
            for origin, target in [(i, j) for i in stations for j in stations]:
                if origin == target or (origin, target) in net[1]:
                    self.assertRaises(Unfit, laid, net, origin, target)
                else:
                    more = laid(net, origin, target)
                    self.assertIsNone(net_error(more))
                    self.assertEqual(shut(more, origin, target), net)
                if (origin, target) in net[1]:
                    fewer = shut(net, origin, target)
                    self.assertIsNone(net_error(fewer))
                    self.assertEqual(laid(fewer, origin, target), net)
                else:
                    self.assertRaises(Unfit, shut, net, origin, target)

    def test_wider(self):
        for net in some_nets(6, 100):
            for station, many in enumerate(net[0]):
                if many < 4:
                    self.assertIsNone(net_error(wider(net, station)))
                    grown = [now - then for now, then in zip(wider(net, station)[0], net[0])]
                    self.assertEqual(grown, [int(other == station) for other in range(len(net[0]))])
                    self.assertEqual(wider(net, station)[1], net[1])


if __name__ == "__main__":
    unittest.main()

"""Nets of four shapes: [A3] and [A8]."""

import random
import unittest

from support import BOTH, LOOP, OfficeCase, any_values, integers_not

from singlegates.errors import Unfit
from singlegates.makers import eight_net, line_net, ring_net, star_net
from singlegates.nets import net_error, nexts, turned

MAKERS = (line_net, ring_net, star_net)


def wrong_tracks():
    """Values that are no tracks of a net."""
    found = any_values()
    found += [(), [1], [1, 1, 1], (1,) * 11, "111", {0: 1, 1: 1, 2: 1}, 3, ((1, 1, 1),), ((1, 1, 1), ())]
    for wrong in integers_not() + [0, 5, -1, 10 ** 399]:
        found += [(wrong,), (wrong, 1, 1), (1, wrong, 4, 1), (1, 2, 3, wrong), (1,) * 9 + (wrong,)]
    return found


class Makers(OfficeCase):
    def test_line(self):
        self.gives(BOTH, line_net, (2, 1, 2))
        self.gives(((3,), ()), line_net, (3,))
        self.gives(((1, 4), ((0, 1), (1, 0))), line_net, (1, 4))
        self.gives(((1, 2, 3, 4), ((0, 1), (1, 0), (1, 2), (2, 1), (2, 3), (3, 2))), line_net, (1, 2, 3, 4))

    def test_ring(self):
        self.gives(LOOP, ring_net, (1, 1, 1))
        self.gives(((3,), ()), ring_net, (3,))
        self.gives(((1, 2), ((0, 1), (1, 0))), ring_net, (1, 2))
        self.gives(((1, 2, 3, 4), ((0, 1), (1, 2), (2, 3), (3, 0))), ring_net, (1, 2, 3, 4))

    def test_star(self):
        self.gives(((1, 2, 2), ((0, 1), (0, 2), (1, 0), (2, 0))), star_net, (1, 2, 2))
        self.gives(((4,), ()), star_net, (4,))
        self.gives(((1, 2), ((0, 1), (1, 0))), star_net, (1, 2))
        self.gives(((4, 3, 2, 1), ((0, 1), (0, 2), (0, 3), (1, 0), (2, 0), (3, 0))), star_net, (4, 3, 2, 1))

    def test_eight(self):
        self.gives(((1,) * 5, ((0, 1), (0, 3), (1, 2), (2, 0), (3, 4), (4, 0))), eight_net, (1,) * 5, 2)
        self.gives(((1, 2, 3), ((0, 1), (0, 2), (1, 0), (2, 0))), eight_net, (1, 2, 3), 1)
        self.gives(((1,) * 5, ((0, 1), (0, 2), (1, 0), (2, 3), (3, 4), (4, 0))), eight_net, (1,) * 5, 1)
        self.gives(((1, 2, 3, 4), ((0, 1), (0, 3), (1, 2), (2, 0), (3, 0))), eight_net, (1, 2, 3, 4), 2)
        self.gives(((4,) * 10, ((0, 1), (0, 9), (1, 2), (2, 3), (3, 4), (4, 5), (5, 6), (6, 7), (7, 8), (8, 0), (9, 0))),
                   eight_net, (4,) * 10, 8)

    def test_tracks_are_unfit(self):
        for value in wrong_tracks():
            for maker in MAKERS:
                self.refuses(Unfit, {}, maker, value)
            self.refuses(Unfit, {}, eight_net, value, 1)

    def test_many_is_unfit(self):
        for size in range(1, 11):
            for many in [-1, 0, size - 1, size, size + 1, 10 ** 399] + integers_not() + any_values():
                self.refuses(Unfit, {}, eight_net, (1,) * size, many)
        for many in range(-2, 3):
            self.refuses(Unfit, {}, eight_net, (1,), many)
            self.refuses(Unfit, {}, eight_net, (1, 1), many)

    def test_both_are_unfit(self):
        self.refuses(Unfit, {}, eight_net, None, None)
        self.refuses(Unfit, {}, eight_net, (1, 0, 1), 2)
        self.refuses(Unfit, {}, eight_net, [1, 1, 1], True)


class Shapes(OfficeCase):
    """The lines, told station by station, for all sizes."""

    def some_tracks(self):
        chance = random.Random(21)
        return [tuple(chance.randint(1, 4) for _ in range(size)) for size in range(1, 11) for _ in range(3)]

    def test_sizes(self):
        for tracks in self.some_tracks():
            for net in [maker(tracks) for maker in MAKERS] + [eight_net(tracks, many) for many in range(1, len(tracks) - 1)]:
                self.assertIsNone(net_error(net))
                self.assertEqual(net[0], tracks)

    def test_line(self):
        for tracks in self.some_tracks():
            net = line_net(tracks)
            for station in range(len(tracks)):
                near = [other for other in range(len(tracks)) if abs(other - station) == 1]
                self.assertEqual(nexts(net, station), tuple(near))
            self.assertEqual(turned(net), net)

    def test_ring(self):
        for tracks in self.some_tracks():
            for station in range(len(tracks)):
                behind = () if len(tracks) == 1 else ((station + 1) % len(tracks),)
                self.assertEqual(nexts(ring_net(tracks), station), behind)

    def test_star(self):
        for tracks in self.some_tracks():
            net = star_net(tracks)
            self.assertEqual(nexts(net, 0), tuple(range(1, len(tracks))))
            for station in range(1, len(tracks)):
                self.assertEqual(nexts(net, station), (0,))

    def test_eight(self):
        for tracks in self.some_tracks():
            for many in range(1, len(tracks) - 1):
                net = eight_net(tracks, many)
                self.assertEqual(nexts(net, 0), (1, many + 1))
                for station in range(1, len(tracks)):
                    last = station in (many, len(tracks) - 1)
                    self.assertEqual(nexts(net, station), (0,) if last else (station + 1,))


if __name__ == "__main__":
    unittest.main()

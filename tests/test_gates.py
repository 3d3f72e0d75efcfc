"""Gates, papers and gated nets: [A3], [E1], [E3], [E4], and of [E5] what holds of them."""

import itertools
import random
import unittest

from support import (
    LOOP, TEN, OfficeCase, all_rounds, any_values, comes, nets_of_all_kinds, small_nets, some_nets,
)

from singlegates.gates import apart, gate_error, gate_paper, gates, is_gated, ungated, widened
from singlegates.makers import eight_net, line_net, ring_net, star_net
from singlegates.nets import net_error, turned
from singlegates.rounds import parts

ROW, EIGHT, RING = line_net((2, 1, 2)), eight_net((1, 1, 2, 1, 1), 2), ring_net((1, 3, 1))
DOWN = ((1, 1, 2), ((0, 1), (1, 2), (2, 1)))
ONE = ((1,), ())
SLOPE = ((1,) * 10, tuple([(i, j) for i in range(10) for j in range(i + 1, 10)]))
PLAIN_TEN = ((1,) * 10, TEN[1])
# The shortest round through 0 is (0, 1, 2); the two that share 0 alone both need a part of it: (0, 1, 4) and (0, 3, 2).
CROSSED = ((1,) * 5, ((0, 1), (0, 3), (1, 2), (1, 4), (2, 0), (3, 2), (4, 0)))
# The shortest round through 0 is (0, 1, 2, 3); the second way has to go against two of its lines, one behind another.
TWISTED = ((1,) * 10, ((0, 1), (0, 7), (1, 2), (1, 4), (2, 3), (3, 0), (4, 5), (5, 6), (6, 0), (7, 8), (8, 9), (9, 3)))


def told_gates(net, station):
    """The gates of a station, as all rounds through it are looked at."""
    through = [stations for stations in all_rounds(net) if station in stations]
    if not through:
        return None
    return tuple([other for other in range(len(net[0])) if other != station and all(other in stations for stations in through)])


def told_apart(net, station, value):
    """Whether value is a pair of two rounds that begin at station and share nothing else, by the document's words."""
    if type(value) is not tuple or len(value) != 2 or any(type(stations) is not tuple for stations in value):
        return False
    for stations in value:
        least = min(stations, default=None)
        spot = stations.index(least) if stations else 0
        if stations[:1] != (station,) or stations[spot:] + stations[:spot] not in all_rounds(net):
            return False
    return set(value[0]) & set(value[1]) == {station}


def are_there_two(net, station):
    """Whether two rounds through station share nothing else, as all pairs of rounds are looked at."""
    through = [set(stations) for stations in all_rounds(net) if station in stations]
    return any(one & other == {station} for one, other in itertools.combinations(through, 2))


def told_error(net, station, value):
    """What gate_error tells, read once more from the document."""
    if type(value) is tuple and len(value) == 1 and value[0] == "none":
        return None if told_gates(net, station) is None else "none"
    if type(value) is tuple and len(value) == 2 and value[0] == "gate" and type(value[1]) is int:
        return None if value[1] in (told_gates(net, station) or ()) else "gate"
    if type(value) is tuple and len(value) == 3 and value[0] == "apart" and type(value[1]) is type(value[2]) is tuple:
        for stations in value[1:]:
            if not all(type(item) is int for item in stations):
                return "apart"
        return None if told_apart(net, station, value[1:]) else "apart"
    return "form"


class Gates(OfficeCase):
    def test_gates(self):
        for net, told in (
            (ROW, ((1,), (), (1,))), (DOWN, (None, (2,), (1,))), (EIGHT, ((), (0, 2), (0, 1), (0, 4), (0, 3))), (RING, ((1, 2), (0, 2), (0, 1))),
            (LOOP, ((1, 2), (0, 2), (0, 1))), (ONE, (None,)), (SLOPE, (None,) * 10), (PLAIN_TEN, ((),) * 10), (((1,) * 10, ()), (None,) * 10),
            (star_net((1, 1, 1, 1)), ((), (0,), (0,), (0,))), (line_net((1, 1)), ((1,), (0,))), (line_net((1,) * 4), ((1,), (), (), (2,))),
            (ring_net((1,) * 10), tuple([tuple([other for other in range(10) if other != station]) for station in range(10)])),
            (CROSSED, ((), (0,), (0,), (0, 2), (0, 1))),
            (TWISTED, ((), (0,), (0, 1, 3), (0,), (0, 1, 5, 6), (0, 1, 4, 6), (0, 1, 4, 5), (0, 3, 8, 9), (0, 3, 7, 9), (0, 3, 7, 8))),
            (((1,) * 4, ((0, 1), (1, 0), (1, 2), (2, 3))), ((1,), (0,), None, None)),
        ):
            for station, found in enumerate(told):
                self.gives(found, gates, net, station)
                self.assertEqual(told_gates(net, station) if net != PLAIN_TEN else (), found)

    def test_tracks_have_nothing_to_do_with_gates(self):
        for tracks in itertools.product((1, 3), repeat=3):
            for lines, told in ((ROW[1], ((1,), (), (1,))), (LOOP[1], ((1, 2), (0, 2), (0, 1)))):
                for station in range(3):
                    self.gives(told[station], gates, (tracks, lines), station)

    def test_all_kinds_of_nets(self):
        for net in nets_of_all_kinds(131, 150):
            for station in range(len(net[0])):
                self.assertEqual(gates(net, station), told_gates(net, station), (net, station))


class Apart(OfficeCase):
    def test_apart(self):
        for net, station, told in ((ROW, 1, [(1, 0), (1, 2)]), (EIGHT, 0, [(0, 1, 2), (0, 3, 4)]), (CROSSED, 0, [(0, 1, 4), (0, 3, 2)]),
                                   (TWISTED, 0, [(0, 1, 4, 5, 6), (0, 7, 8, 9, 3)]), (line_net((1,) * 4), 2, [(2, 1), (2, 3)])):
            found = self.got(apart, net, station)
            self.assertEqual((type(found), type(found[0]), type(found[1])), (tuple,) * 3)
            self.assertEqual(sorted(found), told)

    def test_none(self):
        for net, station in ((ROW, 0), (ROW, 2), (DOWN, 0), (DOWN, 1), (EIGHT, 1), (EIGHT, 4), (LOOP, 0), (RING, 1), (ONE, 0), (SLOPE, 5), (CROSSED, 2),
                             (TWISTED, 3), (line_net((1, 1)), 0), (((1,) * 10, ()), 9), (ring_net((1,) * 10), 3)):
            self.gives(None, apart, net, station)

    def test_all_lines(self):
        for station in range(10):
            one, other = self.got(apart, TEN, station)
            for stations in (one, other):
                self.assertEqual(stations[0], station)
                self.assertTrue(len(stations) > 1 and set(zip(stations, stations[1:] + stations[:1])) <= set(TEN[1]))
                self.assertEqual(len(set(stations)), len(stations))
            self.assertEqual(set(one) & set(other), {station})

    def test_all_kinds_of_nets(self):
        found = 0
        for net in nets_of_all_kinds(132, 150):
            for station in range(len(net[0])):
                two = apart(net, station)
                self.assertEqual(two is None, told_gates(net, station) != (), (net, station))
                if two is not None:
                    found += 1
                    self.assertTrue(told_apart(net, station, two), (net, station, two))
        self.assertGreater(found, 200)

    def test_second_ways_against_the_round(self):
        chance = random.Random(133)
        for net in (CROSSED, TWISTED):
            size = len(net[0])
            for _ in range(150):
                order = chance.sample(range(size), size)
                more = [(chance.randrange(1, size), chance.randrange(1, size)) for _ in range(chance.choice((0, 0, 1, 2)))]
                lines = {(order[i], order[j]) for i, j in net[1] + tuple(more) if i != j}
                tracks = tuple(chance.randint(1, 4) for _ in range(size))
                now = (tracks, tuple(sorted(lines)))
                self.assertTrue(told_apart(now, order[0], apart(now, order[0])), now)


class Papers(OfficeCase):
    def test_papers(self):
        self.gives(("none",), gate_paper, DOWN, 0)
        self.gives(("none",), gate_paper, ONE, 0)
        self.gives(("gate", 1), gate_paper, ROW, 0)
        self.gives(("gate", 2), gate_paper, DOWN, 1)
        for net, station in ((ROW, 1), (EIGHT, 0), (CROSSED, 0), (TEN, 9)):
            paper = self.got(gate_paper, net, station)
            self.assertEqual((type(paper), len(paper), paper[0]), (tuple, 3, "apart"))
            self.gives(None, gate_error, net, station, paper)
        for net, station in ((RING, 0), (EIGHT, 3), (LOOP, 2), (ring_net((1,) * 10), 9)):
            paper = self.got(gate_paper, net, station)
            self.assertEqual((type(paper), len(paper), paper[0], type(paper[1])), (tuple, 2, "gate", int))
            self.assertIn(paper[1], told_gates(net, station))

    def test_right_papers(self):
        for net, station, value in (
            (ROW, 1, ("apart", (1, 2), (1, 0))), (ROW, 1, ("apart", (1, 0), (1, 2))), (ROW, 0, ("gate", 1)), (DOWN, 0, ("none",)),
            (EIGHT, 1, ("gate", 0)), (EIGHT, 1, ("gate", 2)), (EIGHT, 0, ("apart", (0, 1, 2), (0, 3, 4))), (EIGHT, 0, ("apart", (0, 3, 4), (0, 1, 2))),
            (LOOP, 0, ("gate", 1)), (LOOP, 0, ("gate", 2)), (TEN, 0, ("apart", (0, 1, 2, 3, 4), (0, 9, 8, 7, 6, 5))), (ONE, 0, ("none",)),
        ):
            self.gives(None, gate_error, net, station, value)

    def test_none(self):
        for net, station in ((ROW, 0), (ROW, 1), (LOOP, 0), (TEN, 4), (DOWN, 2)):
            self.gives("none", gate_error, net, station, ("none",))

    def test_gate(self):
        for wrong in (0, 2, 3, 10, -1, -2, 10 ** 399, -10 ** 399):
            self.gives("gate", gate_error, ROW, 0, ("gate", wrong))
        for net, station in ((ROW, 1), (EIGHT, 0), (TEN, 5), (DOWN, 0), (ONE, 0), (SLOPE, 3)):
            for wrong in range(10):
                self.gives("gate", gate_error, net, station, ("gate", wrong))
        self.gives("gate", gate_error, EIGHT, 1, ("gate", 3))
        self.gives("gate", gate_error, EIGHT, 1, ("gate", 1))

    def test_apart(self):
        for net, station, one, other in (
            (ROW, 0, (0, 1), (0, 1)), (ROW, 1, (1, 0), (0, 1)), (ROW, 1, (0, 1), (1, 0)), (ROW, 1, (0, 1), (2, 1)), (ROW, 1, (1, 0), (1, 0)),
            (ROW, 1, (1, 0), (2, 1)), (ROW, 1, (1, 0), ()), (ROW, 1, (), (1, 2)), (ROW, 1, (), ()), (ROW, 1, (1,), (1, 2)), (ROW, 1, (1, 0), (1,)),
            (ROW, 1, (1, 0, 2), (1, 2)), (ROW, 1, (1, 0, 1), (1, 2)), (ROW, 1, (1, 0), (1, 3)), (ROW, 1, (1, 0), (1, -1)), (ROW, 1, (True, 0), (1, 2)),
            (ROW, 1, (1, 0), (1, "2")), (ROW, 1, (1, False), (1, 2)), (ROW, 1, (1, 0), (1, [2])), (ROW, 1, (1, 0), (1, (2,))), (ROW, 1, (1, 0), (1, 10 ** 399)),
            (EIGHT, 0, (0, 1, 2), (3, 4, 0)), (EIGHT, 0, (1, 2, 0), (0, 3, 4)), (EIGHT, 0, (0, 1, 2), (0, 4, 3)), (EIGHT, 0, (0, 2, 1), (0, 3, 4)),
            (EIGHT, 0, (0, 1, 2), (0, 1, 2)), (EIGHT, 0, (0, 1), (0, 3, 4)), (EIGHT, 1, (1, 2, 0), (1, 2, 0)), (EIGHT, 1, (0, 1, 2), (0, 3, 4)),
            (TEN, 0, (0, 1, 2), (0, 2)), (TEN, 0, (0, 1, 2), (0, 3, 1)), (TEN, 0, (0, 1, 2, 1), (0, 3)), (TEN, 0, (0, 3), (0, 1, 2, 1)), (DOWN, 0, (0, 1), (0, 2)),
        ):
            self.gives("apart", gate_error, net, station, ("apart", one, other))

    def test_form(self):
        for value in any_values():
            self.gives("form", gate_error, ROW, 0, value)
            self.gives("form", gate_error, ROW, 0, (value,))
            integer = isinstance(value, int) and not isinstance(value, bool)
            self.gives("gate" if integer else "form", gate_error, ROW, 0, ("gate", value))
            rows = isinstance(value, tuple)
            self.gives("apart" if rows else "form", gate_error, ROW, 1, ("apart", value, (1, 2)))
            self.gives("apart" if rows else "form", gate_error, ROW, 1, ("apart", (1, 0), value))
            self.gives("form", gate_error, ROW, 1, (value, (1, 0), (1, 2)))
            self.gives("form", gate_error, ROW, 0, (value, 1))
        for value in (
            ("gate",), ("none", 1), ("none", ()), ("none", "none"), ("gate", 1, 1), ("gate", (1,)), ("gates", 1), ("GATE", 1), ("gate", True), ("gate", "1"), ("gate", None),
            ["gate", 1], ["none"], ["apart", (1, 0), (1, 2)], ("apart",), ("apart", (1, 0)), ("apart", (1, 0), (1, 2), (1, 2)), ("apart", [1, 0], (1, 2)),
            ("apart", (1, 0), [1, 2]), ("apart", ((1, 0), (1, 2))), ("apart", None, None), ("apart", 1, 2), ("apart", "10", "12"), "none", "gate", "apart", None, (),
            (("none",),), {"none": 1}, {"gate": 1}, (1, "gate"), ("some",), ("None",), (None,), ("none", (1, 0), (1, 2)), ("gate", (1, 0), (1, 2)), ("apart", 1),
        ):
            self.gives("form", gate_error, ROW, 0, value)
            self.gives("form", gate_error, ROW, 1, value)
            self.gives("form", gate_error, ONE, 0, value)

    def test_all_kinds_of_nets(self):
        chance = random.Random(134)
        for net in nets_of_all_kinds(135, 60):
            size = len(net[0])
            for station in range(size):
                paper = gate_paper(net, station)
                self.assertIsNone(told_error(net, station, paper), (net, station))
                self.assertIsNone(gate_error(net, station, paper), (net, station))
                through = [stations for stations in all_rounds(net) if station in stations][:60]
                through = [stations[stations.index(station):] + stations[:stations.index(station)] for stations in through]
                for _ in range(6):
                    two = (through or [(station,)]) + [(station, chance.randrange(size)), all_rounds(net)[:1] and all_rounds(net)[0]]
                    value = chance.choice((("none",), ("gate", chance.randrange(-1, size + 1)), ("apart", chance.choice(two), chance.choice(two))))
                    self.assertEqual(gate_error(net, station, value), told_error(net, station, value), (net, station, value))


class Gated(OfficeCase):
    def test_ungated(self):
        for told, net in (
            ((1,), ROW), ((0,), EIGHT), ((), RING), ((), DOWN), ((), ONE), ((), LOOP), ((), SLOPE), (tuple(range(10)), PLAIN_TEN), ((), TEN),
            ((2,), line_net((1, 2, 1, 1))), ((1, 2), line_net((1,) * 4)), ((), line_net((1, 1))), ((), line_net((1, 2, 3, 1))), ((0,), star_net((1, 4, 4))),
            ((), star_net((2, 1, 1))), ((), ((1,) * 10, ())), ((0, 3, 9), (tuple([1 if k in (0, 3, 9) else 2 for k in range(10)]), TEN[1])),
        ):
            self.gives(told, ungated, net)
            self.gives(told == (), is_gated, net)
            wider = tuple([many + (station in told) for station, many in enumerate(net[0])])
            self.gives((wider, net[1]), widened, net)

    def test_all_kinds_of_nets(self):
        for net in nets_of_all_kinds(136, 150):
            told = tuple([station for station, many in enumerate(net[0]) if many == 1 and told_gates(net, station) == ()])
            self.assertEqual(ungated(net), told, net)
            self.assertEqual(is_gated(net), told == ())
            self.assertEqual(widened(net), (tuple([many + (station in told) for station, many in enumerate(net[0])]), net[1]))
            self.assertIsNone(net_error(widened(net)))


class WhatHolds(OfficeCase):
    def test_no_gate_exactly_if_two_rounds_share_nothing_else(self):
        for net in nets_of_all_kinds(137, 60):
            if len(all_rounds(net)) < 300:
                for station in range(len(net[0])):
                    self.assertEqual(gates(net, station) == (), are_there_two(net, station))

    def test_lines_between_parts_and_lines_turned_about(self):
        for net in list(nets_of_all_kinds(138, 60)) + list(some_nets(139, 60)):
            part_of = {station: part for part in parts(net) for station in part}
            within = (net[0], tuple([line for line in net[1] if part_of[line[0]] == part_of[line[1]]]))
            for station in range(len(net[0])):
                self.assertEqual(gates(within, station), gates(net, station))
                self.assertEqual(gates(turned(net), station), gates(net, station))

    def test_a_line_less(self):
        for net in nets_of_all_kinds(140, 30):
            for line in net[1]:
                fewer = (net[0], tuple([other for other in net[1] if other != line]))
                for station in range(len(net[0])):
                    kept, told = gates(fewer, station), gates(net, station)
                    self.assertTrue(kept is None or set(told or ()) <= set(kept), (net, line, station))
                if is_gated(net):
                    self.assertTrue(is_gated(fewer))

    def test_widened_is_gated_and_none_has_fewer_tracks(self):
        chance = random.Random(141)
        for net in list(nets_of_all_kinds(142, 30)) + list(some_nets(143, 60)):
            wide = widened(net)
            self.assertTrue(is_gated(wide), net)
            more = tuple([min(4, many + chance.choice((0, 0, 1))) for many in wide[0]])
            self.assertTrue(is_gated((more, net[1])))
        for net in [(tracks, net[1]) for net in small_nets() for tracks in itertools.product((1, 2), repeat=len(net[0]))]:
            for tracks in itertools.product(*[range(many, 4) for many in net[0]]):
                if is_gated((tracks, net[1])):
                    self.assertGreaterEqual(sum(tracks), sum(widened(net)[0]))

    def test_rounds_told_by_reach(self):
        for net in some_nets(144, 100):
            come = comes(net)
            for station in range(len(net[0])):
                self.assertEqual(gates(net, station) is None, station not in come[station])
                for other in gates(net, station) or ():
                    left = (net[0], tuple([line for line in net[1] if other not in line]))
                    self.assertNotIn(station, comes(left)[station])
                two = apart(net, station)
                self.assertEqual(two is None, gates(net, station) != ())
                if two is not None:
                    self.assertIsNone(gate_error(net, station, ("apart",) + two))


if __name__ == "__main__":
    unittest.main()

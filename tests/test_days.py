"""Days: [A3], [K1] to [K4], and of [K6] what holds of them."""

import itertools
import random
import unittest

from support import (
    BOTH, LOOP, TEN, OfficeCase, any_values, counted, gated_nets, held_lot, integers_not, leaves, some_days, told_greatest, told_ungated,
)

from singlegates.days import day_error, log_error, played
from singlegates.errors import BadDay, Unfit, Ungated
from singlegates.makers import line_net, ring_net
from singlegates.nets import net_error
from singlegates.ways import longest, plain, way_error

DUO, EAST, WEST = line_net((1, 2, 1)), plain((0, 1, 2)), plain((2, 1, 0))
MEET = (DUO, (5, 5, 7, 7), ((EAST, 0, (0, 2, 0), 0), (WEST, 0, (0, 2, 0), 1)))
KEPT = (DUO, (5, 5, 7, 7), ((EAST, 0, (9, 0, 0), 2), (plain((1, 0)), 0, (20, 0), 0), (WEST, 0, (0, 0, 0), 1)))
ONE = ((1,), ())
FOUR = ((4,), ())
FAR = 10 ** 399
FORTY_RING = ring_net((4,) * 10)
LOG = (
    (0, 0, "in", 0), (0, 0, "go", 1), (0, 1, "in", 2), (0, 1, "go", 1), (5, 0, "at", 1), (7, 1, "at", 1), (7, 0, "go", 2), (9, 1, "go", 0),
    (14, 0, "at", 2), (14, 1, "at", 0), (14, 0, "out", 2), (14, 1, "out", 0),
)


class Told:
    """The trains of a day, led as the document's words tell it."""

    def __init__(self, day, delays):
        self.net, minutes, self.trains = day
        self.takes = dict(zip(self.net[1], minutes))
        self.delays = delays or tuple([(0,) * (len(stays) + 1) for _, _, stays, _ in self.trains])
        self.state = ["out"] * len(self.trains)
        self.way = [told[0] for told in self.trains]
        self.depth = [0] * len(self.trains)
        self.since = [None] * len(self.trains)
        self.left = [None] * len(self.trains)

    def entry(self, train):
        return self.trains[train][1] + self.delays[train][0]

    def until(self, train):
        return self.since[train] + self.trains[train][2][self.depth[train]] + self.delays[train][1 + self.depth[train]]

    def due(self, train):
        return self.since[train] + self.takes[(self.left[train], self.way[train][0])]

    def aimed(self):
        return [way if state in ("stands", "under way") else None for way, state in zip(self.way, self.state)]

    def is_open(self, station):
        held = 0
        for train, state in enumerate(self.state):
            held += state in ("stands", "under way") and self.way[train][0] == station
            held += state == "under way" and self.left[train] == station
        return self.net[0][station] > held

    def do(self, minute, train, word, station):
        if word == "go":
            self.left[train] = self.way[train][0]
            self.way[train] = [branch for branch in self.way[train][1] if branch[0] == station][0]
        if word == "at":
            self.depth[train] += 1
        self.since[train] = minute
        self.state[train] = {"in": "stands", "go": "under way", "at": "stands", "out": "gone"}[word]

    def what(self, minute, train):
        """What a train can do in the second step of a minute, as a word and a station; None if nothing."""
        station, further = self.way[train]
        aimed = self.aimed()
        if self.state[train] == "out" and self.entry(train) <= minute and self.is_open(station):
            aimed[train] = self.way[train]
            return None if held_lot(self.net, aimed, station) else ("in", station)
        if self.state[train] == "stands" and self.until(train) <= minute:
            if not further:
                return ("out", station)
            for branch in further:
                if self.is_open(branch[0]):
                    aimed[train] = branch
                    if not held_lot(self.net, aimed, branch[0]):
                        return ("go", branch[0])
        return None


def told_log(day, delays, last=20000):
    """The log of a day, minute by minute; and after each row whether the aimed standing has a lot."""
    told = Told(day, delays)
    order = sorted(range(len(told.trains)), key=lambda train: (told.trains[train][3], train))
    log = []
    for minute in range(last):
        for train, state in enumerate(told.state):
            if state == "under way" and told.due(train) == minute:
                told.do(minute, train, "at", told.way[train][0])
                log.append((minute, train, "at", told.way[train][0]))
        while True:
            able = [(train, told.what(minute, train)) for train in order]
            able = [(train, deed) for train, deed in able if deed]
            if not able:
                break
            train, deed = able[0]
            told.do(minute, train, *deed)
            log.append((minute, train) + deed)
        if set(told.state) <= {"gone"}:
            return tuple(log)
    raise AssertionError(day)


def told_log_error(day, value):
    """What log_error tells, read once more from the document."""
    if type(value) is not tuple:
        return "form"
    for row in value:
        if type(row) is not tuple or len(row) != 4 or type(row[0]) is not int or row[0] < 0 or type(row[1]) is not int:
            return "form"
        if row[1] not in range(len(day[2])) or type(row[2]) is not str or row[2] not in ("in", "go", "at", "out"):
            return "form"
        if type(row[3]) is not int or row[3] not in range(len(day[0][0])):
            return "form"
    told = Told(day, ())
    for spot, (minute, train, word, station) in enumerate(value):
        state, way = told.state[train], told.way[train]
        targets = [branch[0] for branch in way[1]]
        error = None
        if spot and minute < value[spot - 1][0]:
            error = "minute"
        elif any(state == "under way" and told.due(other) < minute for other, state in enumerate(told.state)):
            error = "due"
        elif word == "in" and state != "out" or word == "at" and state != "under way" or word in ("go", "out") and state != "stands":
            error = "word"
        elif word == "go" and not targets or word == "out" and targets:
            error = "word"
        elif station not in (targets if word == "go" else [way[0]]):
            error = "station"
        elif word == "in" and minute < told.entry(train) or word == "at" and minute != told.due(train):
            error = "early"
        elif word in ("go", "out") and minute < told.until(train):
            error = "early"
        elif word in ("in", "go") and not told.is_open(station):
            error = "full"
        if error:
            return (spot, error)
        told.do(minute, train, word, station)
    return None if set(told.state) <= {"gone"} else "left"


class DayError(OfficeCase):
    def test_days(self):
        for value in (
            MEET, KEPT, (ONE, (), ()), (FOUR, (), (((0, ()), 600, (60,), 40),) * 40), MEET[:1] + ((1, 60, 1, 60),) + MEET[2:], (BOTH, (1, 1, 1, 1), ()),
            (TEN, (60,) * 90, ((counted(40), 0, (0,) * (longest(counted(40)) + 1), 0),)), MEET[:2] + ((((0, ((1, leaves(0, 2)),)), 0, (0, 0, 0), 0),),),
            (TEN, (1,) * 90, ((plain((0, 1) * 6 + (0,)), 600, (60,) * 13, 40),)), (LOOP, (1, 2, 3), (((0, ()), 0, (0,), 0),)),
        ):
            self.gives(None, day_error, value)

    def test_form(self):
        for value in any_values():
            triple = isinstance(value, tuple) and len(value) == 3
            self.gives(("net", "form") if triple else "form", day_error, value)
        for value in (MEET[:2], MEET + (0,), list(MEET), (MEET,), {0: MEET}, None, DUO, ()):
            self.gives("form", day_error, value)

    def test_net(self):
        for net in any_values() + [DUO[:1], list(DUO), ((1, 2, 0), DUO[1]), ((1, True, 1), DUO[1]), (DUO[0], DUO[1][::-1]), (DUO[0], ((0, 3),)), (DUO[0], list(DUO[1]))]:
            self.gives(("net", net_error(net)), day_error, (net,) + MEET[1:])
            self.assertIsNotNone(net_error(net))

    def test_minutes(self):
        for minutes in any_values():
            self.gives("minutes", day_error, MEET[:1] + (minutes,) + MEET[2:])
            if minutes != ():
                self.gives("minutes", day_error, (ONE, minutes, ()))
        for spot in range(4):
            for wrong in integers_not() + [0, 61, -1, FAR, -FAR, "5", (5,), [5]]:
                self.gives("minutes", day_error, MEET[:1] + (MEET[1][:spot] + (wrong,) + MEET[1][spot + 1:],) + MEET[2:])
            for right in (1, 60):
                self.gives(None, day_error, MEET[:1] + (MEET[1][:spot] + (right,) + MEET[1][spot + 1:],) + MEET[2:])
        for minutes in ((5, 5, 7), (5, 5, 7, 7, 7), [5, 5, 7, 7], (), "5577", {0: 5, 1: 5, 2: 7, 3: 7}, ((5, 5, 7, 7),)):
            self.gives("minutes", day_error, MEET[:1] + (minutes,) + MEET[2:])

    def test_trains(self):
        told = (EAST, 0, (0, 2, 0), 0)
        for trains in any_values():
            if isinstance(trains, tuple) and len(trains) <= 40:
                self.gives(("train", 0, "form") if trains else None, day_error, MEET[:2] + (trains,))
            else:
                self.gives("trains", day_error, MEET[:2] + (trains,))
        for trains in (None, [told], {0: told}, (told,) * 41, "", (None,) * 41, [], 0):
            self.gives("trains", day_error, MEET[:2] + (trains,))
        self.gives(None, day_error, MEET[:2] + ((told,) * 40,))

    def test_each_train(self):
        told = (EAST, 0, (0, 2, 0), 0)
        for wrong, word in (
            (told[:3], "form"), (told + (0,), "form"), (list(told), "form"), (None, "form"), ((), "form"), ((told,), "form"), ("east", "form"), ({0: told}, "form"),
            ((list(EAST),) + told[1:], "way"), (((0, ((2, ()),)),) + told[1:], "way"), ((None,) + told[1:], "way"), (((3, ()), 0, (0,), 0), "way"), ((counted(41),) + told[1:], "way"),
            (((1, leaves(2, 0)), 0, (0, 0), 0), "way"), (((True, ()), 0, (0,), 0), "way"),
        ):
            for trains in ((wrong,), (told, wrong), (told,) * 39 + (wrong,), (wrong, None)):
                self.gives(("train", trains.index(wrong), word), day_error, MEET[:2] + (trains,))
        for spot, word in ((1, "entry"), (3, "rank")):
            for wrong in integers_not() + [-1, FAR, -FAR, "0", 601 if spot == 1 else 41, [0], (0,)]:
                self.gives(("train", 0, word), day_error, MEET[:2] + ((told[:spot] + (wrong,) + told[spot + 1:],),))
            for right in (0, 1, 600 if spot == 1 else 40):
                self.gives(None, day_error, MEET[:2] + ((told[:spot] + (right,) + told[spot + 1:],),))

    def test_stays(self):
        for stays in any_values() + [(0, 2), (0, 2, 0, 0), [0, 2, 0], (), 0, None, "020", {0: 0, 1: 2, 2: 0}]:
            if stays != (0, 0, 0) or not isinstance(stays, tuple):
                self.gives(("train", 1, "stays"), day_error, MEET[:2] + ((MEET[2][0], (EAST, 0, stays, 0)),))
        for spot in range(3):
            for wrong in integers_not() + [-1, 61, FAR, -FAR]:
                self.gives(("train", 0, "stays"), day_error, MEET[:2] + (((EAST, 0, (0,) * spot + (wrong,) + (0,) * (2 - spot), 0),),))
            for right in (0, 60):
                self.gives(None, day_error, MEET[:2] + (((EAST, 0, (0,) * spot + (right,) + (0,) * (2 - spot), 0),),))
        either = (1, ((0, ()), (2, ((1, ((2, ()),)),))))
        for many in range(7):
            self.gives(None if many == 4 else ("train", 0, "stays"), day_error, MEET[:2] + (((either, 0, (1,) * many, 0),),))

    def test_several_errors_at_once(self):
        bad = (None, -1, None, -1)
        for value, error in (
            ((None, None), "form"), ((None, None, None), ("net", "form")), ((DUO, None, None), "minutes"), ((DUO, MEET[1], (bad,) * 41), "trains"),
            ((DUO, MEET[1], (bad[:3], bad)), ("train", 0, "form")), ((DUO, MEET[1], (bad,)), ("train", 0, "way")), ((DUO, MEET[1], ((EAST,) + bad[1:],)), ("train", 0, "entry")),
            ((DUO, MEET[1], ((EAST, 0) + bad[2:],)), ("train", 0, "stays")), ((DUO, MEET[1], ((EAST, 0, (0, 2, 0), -1), bad)), ("train", 0, "rank")),
            ((BOTH, MEET[1], MEET[2]), None), ((DUO, MEET[1], (MEET[2][0], (EAST, 0, (0, 2, 0), 41), bad)), ("train", 1, "rank")),
        ):
            self.gives(error, day_error, value)

    def test_more_trains_than_tracks_at_one_station(self):
        self.gives(None, day_error, MEET[:2] + (((EAST, 0, (0, 0, 0), 0),) * 40,))


class Played(OfficeCase):
    def plays(self, log, day, delays):
        self.gives(log, played, day, delays)
        self.assertEqual(told_log(day, delays), log)

    def test_told_days(self):
        self.plays(LOG, MEET, ())
        self.plays(LOG, MEET, ((0, 0, 0, 0),) * 2)
        self.plays(LOG[:6] + ((9, 1, "go", 0), (10, 0, "go", 2), (14, 1, "at", 0), (14, 1, "out", 0), (17, 0, "at", 2), (17, 0, "out", 2)), MEET, ((0, 0, 3, 0), (0, 0, 0, 0)))
        self.plays((
            (0, 1, "in", 1), (0, 2, "in", 2), (0, 2, "go", 1), (7, 2, "at", 1), (7, 2, "go", 0), (12, 2, "at", 0), (12, 2, "out", 0), (12, 0, "in", 0), (21, 0, "go", 1),
            (26, 0, "at", 1), (26, 1, "go", 0), (26, 0, "go", 2), (31, 1, "at", 0), (31, 1, "out", 0), (33, 0, "at", 2), (33, 0, "out", 2),
        ), KEPT, ())

    def test_no_trains(self):
        for net in (ONE, DUO, LOOP, TEN):
            self.plays((), (net, (1,) * len(net[1]), ()), ())

    def test_a_train_that_comes_in_and_leaves_in_one_minute(self):
        self.plays(((0, 0, "in", 0), (0, 0, "out", 0)), (ONE, (), (((0, ()), 0, (0,), 0),)), ())
        self.plays(((600, 0, "in", 0), (660, 0, "out", 0)), (ONE, (), (((0, ()), 600, (60,), 40),)), ())
        self.plays(((660, 0, "in", 0), (780, 0, "out", 0)), (ONE, (), (((0, ()), 600, (60,), 40),)), ((60, 60),))
        self.plays(((0, 0, "in", 0), (0, 0, "out", 0), (0, 1, "in", 0), (0, 1, "out", 0)), (ONE, (), (((0, ()), 0, (0,), 0),) * 2), ())
        self.plays(((3, 0, "in", 0), (3, 0, "go", 1), (4, 0, "at", 1), (4, 0, "go", 2), (64, 0, "at", 2), (64, 0, "out", 2)), (DUO, (1, 1, 60, 60), ((EAST, 3, (0, 0, 0), 0),)), ())

    def test_ranks_and_numbers(self):
        one, two = ((0, ()), 0, (1,), 5), ((0, ()), 0, (1,), 4)
        self.plays(((0, 1, "in", 0), (1, 1, "out", 0), (1, 0, "in", 0), (2, 0, "out", 0)), (ONE, (), (one, two)), ())
        self.plays(((0, 0, "in", 0), (1, 0, "out", 0), (1, 1, "in", 0), (2, 1, "out", 0)), (ONE, (), (one, one)), ())
        self.plays(((0, 0, "in", 0), (1, 0, "out", 0), (1, 1, "in", 0), (2, 1, "out", 0)), (ONE, (), (two, one)), ())
        for ranks in itertools.permutations((0, 7, 40)):
            day = (((2,), ()), (), tuple([((0, ()), 0, (3,), rank) for rank in ranks]))
            order = [ranks.index(rank) for rank in (0, 7, 40)]
            log = played(day, ())
            self.assertEqual([train for _, train, word, _ in log if word == "in"], order)
            self.assertEqual(log, told_log(day, ()))

    def test_arrivals_come_in_the_order_of_numbers(self):
        day = (((2, 2), ((0, 1),)), (4,), ((plain((0, 1)), 0, (0, 0), 9), (plain((0, 1)), 0, (0, 0), 2)))
        self.plays((
            (0, 1, "in", 0), (0, 1, "go", 1), (0, 0, "in", 0), (0, 0, "go", 1), (4, 0, "at", 1), (4, 1, "at", 1), (4, 1, "out", 1), (4, 0, "out", 1),
        ), day, ())

    def test_under_way_both_tracks_are_held(self):
        day = (((1, 1), ((0, 1), (1, 0))), (9, 9), ((plain((0, 1)), 0, (0, 0), 0), (plain((0,)), 3, (0,), 1), (plain((1,)), 4, (0,), 2)))
        self.plays((
            (0, 0, "in", 0), (0, 0, "go", 1), (9, 0, "at", 1), (9, 0, "out", 1), (9, 1, "in", 0), (9, 1, "out", 0), (9, 2, "in", 1), (9, 2, "out", 1),
        ), day, ())

    def test_a_choice_that_is_not_open_or_brings_a_lot_is_passed_by(self):
        star = ((2, 1, 1), ((0, 1), (0, 2), (1, 0), (2, 0)))
        wide = ((0, leaves(1, 2)), 0, (0, 0), 0)
        self.plays((
            (0, 1, "in", 1), (0, 0, "in", 0), (0, 0, "go", 2), (2, 0, "at", 2), (2, 0, "out", 2), (5, 1, "out", 1),
        ), (star, (1, 2, 3, 4), (wide[:3] + (1,), ((1, ()), 0, (5,), 0))), ())
        net = ((1, 1, 1, 1), ((0, 1), (0, 3), (1, 2), (2, 1)))
        told = ((0, ((1, ((2, ()),)), (3, ()))), 1, (0, 0, 0), 0)
        self.plays((
            (0, 1, "in", 2), (1, 0, "in", 0), (1, 0, "go", 3), (2, 0, "at", 3), (2, 0, "out", 3), (5, 1, "go", 1), (6, 1, "at", 1), (6, 1, "out", 1),
        ), (net, (1, 1, 1, 1), (told, (plain((2, 1)), 0, (5, 0), 0))), ())

    def test_a_train_that_would_bring_a_lot_stays_out(self):
        self.assertEqual([row for row in played(KEPT, ()) if row[1] == 0][0], (12, 0, "in", 0))
        day = (LOOP, (5, 5, 5), tuple([(plain((k, (k + 1) % 3)), 0, (0, 0), k) for k in range(3)]))
        self.plays((
            (0, 0, "in", 0), (0, 0, "go", 1), (0, 2, "in", 2), (5, 0, "at", 1), (5, 0, "out", 1), (5, 1, "in", 1), (5, 2, "go", 0), (10, 2, "at", 0), (10, 1, "go", 2),
            (10, 2, "out", 0), (15, 1, "at", 2), (15, 1, "out", 2),
        ), day, ())

    def test_minutes_1_and_60_and_stays_0_and_60(self):
        for minutes, stays, delays, log in (
            ((1, 1), (0, 0), (), ((0, 0, "in", 0), (0, 0, "go", 1), (1, 0, "at", 1), (1, 0, "out", 1))),
            ((60, 1), (0, 60), (), ((0, 0, "in", 0), (0, 0, "go", 1), (60, 0, "at", 1), (120, 0, "out", 1))),
            ((60, 1), (60, 0), ((0, 60, 60),), ((0, 0, "in", 0), (120, 0, "go", 1), (180, 0, "at", 1), (240, 0, "out", 1))),
            ((1, 60), (60, 60), ((60, 0, 0),), ((60, 0, "in", 0), (120, 0, "go", 1), (121, 0, "at", 1), (181, 0, "out", 1))),
        ):
            self.plays(log, (((1, 1), ((0, 1), (1, 0))), minutes, ((plain((0, 1)), 0, stays, 0),)), delays)

    def test_lines_take_their_own_minutes(self):
        net = ((1, 1, 1), ((0, 1), (0, 2), (1, 2), (2, 0)))
        day = (net, (3, 5, 7, 11), ((plain((0, 1, 2, 0, 2)), 0, (0, 1, 0, 2, 4), 0),))
        self.plays((
            (0, 0, "in", 0), (0, 0, "go", 1), (3, 0, "at", 1), (4, 0, "go", 2), (11, 0, "at", 2), (11, 0, "go", 0), (22, 0, "at", 0), (24, 0, "go", 2), (29, 0, "at", 2), (33, 0, "out", 2),
        ), day, ())

    def test_40_trains(self):
        trains = tuple([(plain(tuple([(k + step) % 10 for step in range(13)])), 0, (0,) * 13, 40 - k) for k in range(40)])
        day = (FORTY_RING, (7,) * 10, trains)
        log = self.got(played, day, ())
        self.assertEqual(log, told_log(day, ()))
        self.assertEqual(len(log), 40 * 26)
        self.gives(None, log_error, day, log)
        late = tuple([(60,) * 14] * 40)
        self.assertEqual(self.got(played, day, late), told_log(day, late))

    def test_bad_days(self):
        for value in any_values() + [MEET[:2], list(MEET), (DUO[:1],) + MEET[1:], (DUO, (5, 5, 7)) + MEET[2:], MEET[:2] + ((MEET[2][0][:3],),), MEET[:2] + ((MEET[2][0],) * 41,)]:
            self.refuses(BadDay, {"error": day_error(value)}, played, value, ())
            self.assertIsNotNone(day_error(value))
        for value, error in (
            (MEET[:2] + (((EAST, 601, (0, 2, 0), 0),),), ("train", 0, "entry")), (MEET[:2] + ((MEET[2][0], (EAST, 0, (0, 2), 0)),), ("train", 1, "stays")),
            (MEET[:1] + ((5, 5, 7, 61),) + MEET[2:], "minutes"), (MEET[:2] + (((EAST, 0, (0, 2, 0), True),),), ("train", 0, "rank")), ((((0,), ()), (), ()), ("net", ("tracks", 0))),
        ):
            self.refuses(BadDay, {"error": error}, played, value, ())

    def test_no_delays(self):
        zero = (0, 0, 0, 0)
        for value in any_values():
            if value != () or not isinstance(value, tuple):
                self.refuses(Unfit, {}, played, MEET, value)
            if value != zero:
                self.refuses(Unfit, {}, played, MEET, (zero, value))
        for value in ((zero,), (zero,) * 3, [zero, zero], (zero, (0, 0, 0)), (zero, zero + (0,)), (list(zero), zero), ((0, 0, 3),), ((), ()), (zero, ()), zero * 2, {0: zero, 1: zero}):
            self.refuses(Unfit, {}, played, MEET, value)
        for spot in range(4):
            for wrong in integers_not() + [-1, 61, FAR, -FAR]:
                self.refuses(Unfit, {}, played, MEET, (zero, zero[:spot] + (wrong,) + zero[spot + 1:]))
            for right in (0, 60):
                delays = (zero[:spot] + (right,) + zero[spot + 1:], zero)
                self.plays(told_log(MEET, delays), MEET, delays)
        for value in (((),), ((0,),), (0,), [], None):
            self.refuses(Unfit, {}, played, (ONE, (), ()), value)
        self.refuses(Unfit, {}, played, (ONE, (), (((0, ()), 0, (0,), 0),)), ((0, 0, 0),))

    def test_nets_that_are_not_gated(self):
        self.refuses(Ungated, {"station": 1}, played, (line_net((1, 1, 1)),) + MEET[1:], ())
        self.refuses(Ungated, {"station": 1}, played, (BOTH, (1, 1, 1, 1), ()), ())
        self.refuses(Ungated, {"station": 2}, played, (line_net((2, 2, 1, 1, 2)), (1,) * 8, ()), ())

    def test_several_errors_at_once(self):
        bare = (line_net((1, 1, 1)),) + MEET[1:]
        self.refuses(BadDay, {"error": "form"}, played, bare[:2], None)
        self.refuses(BadDay, {"error": "trains"}, played, bare[:2] + (None,), ((0,),))
        self.refuses(Unfit, {}, played, bare, ((0, 0, 3),))
        self.refuses(Unfit, {}, played, bare, None)
        self.refuses(Ungated, {"station": 1}, played, bare, ((0, 0, 0, 0),) * 2)

    def test_all_kinds_of_days(self):
        for day, delays in some_days(401, 400, 20):
            self.assertEqual(played(day, delays), told_log(day, delays), (day, delays))
        for day, delays in some_days(402, 12, 400):
            self.gives(told_log(day, delays), played, day, delays)


class LogError(OfficeCase):
    def test_right_logs(self):
        for value in (LOG, played(MEET, ((9, 0, 3, 0), (0, 4, 0, 1))), played(MEET, ((60,) * 4, (60,) * 4)), LOG[2:4] + LOG[:2] + LOG[4:], LOG[:8] + (LOG[9], LOG[8], LOG[11], LOG[10])):
            self.gives(None, log_error, MEET, value)
        self.gives(None, log_error, KEPT, played(KEPT, ()))
        self.gives(None, log_error, (ONE, (), ()), ())
        self.gives(None, log_error, (ONE, (), (((0, ()), 3, (4,), 0),)), ((3, 0, "in", 0), (FAR, 0, "out", 0)))

    def test_form(self):
        for value in any_values():
            if value == () and isinstance(value, tuple):
                self.gives("left", log_error, MEET, value)
            else:
                self.gives("form", log_error, MEET, value)
            self.gives("form", log_error, MEET, (value,))
            self.gives("form", log_error, MEET, LOG + (value,))
            for spot in range(4):
                right = (0, 0, "in", 0)
                row = right[:spot] + (value,) + right[spot + 1:]
                told = told_log_error(MEET, (row,))
                self.gives(told, log_error, MEET, (row,))
                self.assertEqual(told, "left" if spot == 0 and type(value) is int and value > 0 else "form")
        for row in (
            (0, 2, "in", 0), (0, -1, "in", 0), (0, True, "in", 0), (False, 0, "in", 0), (-1, 0, "in", 0), (0, 0, "In", 0), (0, 0, "in", 3), (0, 0, "in", -1), (0, 0, "in", True),
            (0, 0, "on", 0), (0, 0, "", 0), (0, 0, "in", None), (0, 0, "in"), (0, 0, "in", 0, 0), [0, 0, "in", 0], (0, 0, ("in",), 0), ("0", 0, "in", 0), (0, FAR, "in", 0), (0, 0, 0, "in"),
        ):
            self.gives("form", log_error, MEET, (row,))
            self.gives("form", log_error, MEET, LOG + (row,))
            self.gives("form", log_error, MEET, ((9, 1, "out", 1), row))
        for value in (list(LOG), None, LOG[0], {0: LOG[0]}, "0 0 in 0"):
            self.gives("form", log_error, MEET, value)
        self.gives("form", log_error, (ONE, (), ()), ((0, 0, "in", 0),))

    def test_left(self):
        for many in range(12):
            self.gives("left", log_error, MEET, LOG[:many])
        self.gives("left", log_error, MEET, ())

    def test_minute(self):
        self.gives((1, "minute"), log_error, MEET, ((3, 0, "in", 0), (2, 1, "in", 2)))
        self.gives((1, "minute"), log_error, MEET, ((3, 0, "in", 0), (2, 0, "in", 2)))
        self.gives((3, "minute"), log_error, MEET, ((3, 0, "in", 0), (3, 0, "go", 1), (8, 0, "at", 1), (7, 1, "in", 2)))
        self.gives(None, log_error, MEET, tuple([(row[0] + 5,) + row[1:] for row in LOG]))

    def test_due(self):
        self.gives((4, "due"), log_error, MEET, LOG[:4] + LOG[5:])
        self.gives((2, "due"), log_error, MEET, LOG[:2] + ((6, 0, "at", 1),))
        self.gives((2, "due"), log_error, MEET, LOG[:2] + ((6, 0, "in", 0),))
        self.gives("left", log_error, MEET, LOG[:2] + ((5, 1, "in", 2), (5, 0, "at", 1)))
        self.gives((2, "due"), log_error, MEET, LOG[:2] + ((6, 1, "in", 2),))
        self.gives((4, "due"), log_error, MEET, LOG[:4] + ((6, 1, "at", 1),))

    def test_word(self):
        for rows, wrong in (
            ((), (0, 0, "go", 1)), ((), (0, 0, "out", 0)), ((), (0, 0, "at", 0)), (LOG[:1], (0, 0, "in", 0)), (LOG[:1], (0, 0, "out", 0)), (LOG[:1], (0, 0, "at", 1)), (LOG[:1], (0, 1, "at", 1)),
            (LOG[:2], (3, 0, "in", 0)), (LOG[:2], (3, 0, "go", 1)), (LOG[:2], (3, 0, "go", 2)), (LOG[:2], (3, 0, "out", 1)), (LOG[:5], (7, 0, "at", 1)), (LOG[:5], (7, 0, "out", 1)),
            (LOG[:9], (14, 0, "go", 1)), (LOG[:9], (14, 0, "at", 2)), (LOG[:11], (14, 0, "in", 0)), (LOG[:11], (14, 0, "out", 2)), (LOG[:11], (14, 0, "go", 1)), (LOG[:11], (14, 0, "at", 2)),
        ):
            self.gives((len(rows), "word"), log_error, MEET, rows + (wrong,))

    def test_station(self):
        for rows, wrong in (
            ((), (0, 0, "in", 1)), ((), (0, 1, "in", 0)), (LOG[:1], (0, 0, "go", 2)), (LOG[:1], (0, 0, "go", 0)), (LOG[:4], (5, 0, "at", 0)), (LOG[:4], (5, 0, "at", 2)),
            (LOG[:6], (7, 0, "go", 0)), (LOG[:6], (7, 0, "go", 1)), (LOG[:10], (14, 0, "out", 1)), (LOG[:10], (14, 0, "out", 0)),
        ):
            self.gives((len(rows), "station"), log_error, MEET, rows + (wrong,))

    def test_early(self):
        timed = MEET[:2] + (((EAST, 3, (4, 2, 1), 0), (WEST, 0, (0, 2, 0), 1)),)
        self.gives((0, "early"), log_error, timed, ((2, 0, "in", 0),))
        rows = ((3, 0, "in", 0), (7, 0, "go", 1), (12, 0, "at", 1), (14, 0, "go", 2), (21, 0, "at", 2), (22, 0, "out", 2))
        for spot in range(6):
            self.gives("left", log_error, timed, rows[:spot + 1])
            soon = (rows[spot][0] - 1,) + rows[spot][1:]
            self.gives((spot, "early"), log_error, timed, rows[:spot] + (soon,))
            late = (rows[spot][0] + 1,) + rows[spot][1:]
            self.gives((spot, "due") if rows[spot][2] == "at" else "left", log_error, timed, rows[:spot] + (late,))
        self.gives((2, "early"), log_error, MEET, LOG[:2] + ((4, 0, "at", 1),))

    def test_a_long_stay_puts_off_what_comes_behind_it(self):
        timed = (ONE, (), (((0, ()), 5, (7,), 0),))
        self.gives((1, "early"), log_error, timed, ((9, 0, "in", 0), (15, 0, "out", 0)))
        self.gives(None, log_error, timed, ((9, 0, "in", 0), (16, 0, "out", 0)))

    def test_full(self):
        self.gives((4, "full"), log_error, MEET, ((0, 1, "in", 2), (0, 1, "go", 1), (7, 1, "at", 1), (9, 1, "go", 0), (9, 0, "in", 0)))
        three = MEET[:2] + (MEET[2] + ((plain((1,)), 0, (0,), 0), (plain((0,)), 0, (0,), 0)),)
        self.gives((1, "full"), log_error, three, ((0, 0, "in", 0), (0, 3, "in", 0)))
        self.gives((2, "full"), log_error, three, ((0, 0, "in", 0), (0, 0, "go", 1), (1, 3, "in", 0)))
        self.gives("left", log_error, three, ((0, 0, "in", 0), (0, 0, "go", 1), (5, 0, "at", 1), (5, 3, "in", 0)))
        self.gives((4, "full"), log_error, three, LOG[:4] + ((3, 2, "in", 1),))
        self.gives((4, "full"), log_error, three, LOG[:3] + ((0, 2, "in", 1), (1, 1, "go", 1)))
        self.gives("left", log_error, three, LOG[:3] + ((0, 2, "in", 1), (0, 2, "out", 1), (1, 1, "go", 1)))

    def test_rows_count_in_the_order_in_which_they_stand(self):
        two = (((1, 1), ((0, 1),)), (2,), ((plain((0, 1)), 0, (0, 0), 0), (plain((0,)), 0, (0,), 0)))
        first = ((0, 0, "in", 0), (0, 0, "go", 1))
        self.gives(None, log_error, two, first + ((2, 0, "at", 1), (2, 1, "in", 0), (2, 1, "out", 0), (2, 0, "out", 1)))
        self.gives((2, "full"), log_error, two, first + ((2, 1, "in", 0), (2, 0, "at", 1), (2, 1, "out", 0), (2, 0, "out", 1)))

    def test_several_words_at_once(self):
        for rows, row, word in (
            (LOG[:6], (6, 1, "in", 0), "minute"), (LOG[:6], (6, 0, "out", 0), "minute"), (LOG[:4], (6, 0, "in", 2), "due"), (LOG[:4], (6, 0, "at", 2), "due"), (LOG[:2], (4, 0, "in", 2), "word"),
            (LOG[:1], (0, 0, "out", 2), "word"), ((), (0, 0, "go", 2), "word"), (LOG[:2], (4, 0, "at", 2), "station"), (LOG[:6], (7, 1, "go", 2), "station"),
        ):
            self.gives((len(rows), word), log_error, MEET, rows + (row,))
        timed = MEET[:2] + (((EAST, 3, (4, 2, 1), 0), (EAST, 3, (0, 2, 0), 1)),)
        self.gives((0, "station"), log_error, timed, ((2, 0, "in", 1),))
        self.gives((1, "early"), log_error, timed[:2] + ((timed[2][0], (EAST, 9, (0, 2, 0), 1)),), ((3, 0, "in", 0), (8, 1, "in", 0)))
        self.gives((1, "full"), log_error, timed, ((3, 0, "in", 0), (8, 1, "in", 0)))

    def test_it_asks_for_no_rank_no_lots_and_no_order(self):
        late = KEPT[:2] + (((EAST, 0, (0, 0, 0), 2), (plain((1, 0)), 0, (0, 0), 0), (WEST, 0, (0, 0, 0), 1)),)
        rows = ((0, 0, "in", 0), (0, 2, "in", 2), (0, 1, "in", 1), (0, 0, "go", 1), (5, 0, "at", 1), (5, 1, "go", 0), (10, 1, "at", 0), (10, 1, "out", 0))
        self.gives("left", log_error, late, rows)
        self.gives((8, "full"), log_error, late, rows + ((10, 0, "go", 2),))
        self.gives("left", log_error, KEPT, ((0, 0, "in", 0), (0, 1, "in", 1), (0, 2, "in", 2), (0, 2, "go", 1), (7, 2, "at", 1)))
        bare = (line_net((1, 1, 1)), (1, 1, 1, 1), ((EAST, 0, (0, 0, 0), 0),))
        self.gives(None, log_error, bare, ((0, 0, "in", 0), (9, 0, "go", 1), (10, 0, "at", 1), (10, 0, "go", 2), (11, 0, "at", 2), (30, 0, "out", 2)))

    def test_all_kinds_of_logs(self):
        chance = random.Random(411)
        words = {}
        for day, delays in some_days(412, 300, 12):
            log = list(played(day, delays))
            self.gives(None, log_error, day, tuple(log))
            for _ in range(8):
                value, spot = list(log), chance.randrange(len(log))
                other = chance.randrange(len(log))
                row = value[spot]
                changed = (
                    None, row, (row[0] + 1,) + row[1:], (row[0] - 1,) + row[1:], row[:1] + (chance.randrange(-1, len(day[2]) + 1),) + row[2:],
                    row[:2] + (chance.choice(("in", "go", "at", "out")),) + row[3:], row[:3] + (chance.randrange(-1, len(day[0][0]) + 1),), log[other],
                )
                now = chance.choice(changed)
                value[spot:spot + chance.choice((1, 1, 0))] = [] if now is None else [now]
                if chance.random() < 0.2:
                    value[spot:spot + 1], value[other:other + 1] = value[other:other + 1], value[spot:spot + 1]
                told = told_log_error(day, tuple(value))
                self.assertEqual(log_error(day, tuple(value)), told, (day, value))
                words[told[1] if isinstance(told, tuple) else told] = True
        self.assertEqual(set(words), {None, "form", "left", "minute", "due", "word", "station", "early", "full"})


class WhatHolds(OfficeCase):
    def test_all_trains_come_in_and_are_gone(self):
        for day, delays in some_days(421, 200, 30):
            log = played(day, delays)
            self.assertIsNone(log_error(day, log))
            for train, (way, _, _, _) in enumerate(day[2]):
                words = [word for _, other, word, _ in log if other == train]
                steps = words.count("go")
                self.assertEqual(words, ["in"] + ["go", "at"] * steps + ["out"])
                self.assertLessEqual(steps, longest(way))
            self.assertTrue(not log or log[-1][2] == "out")

    def test_the_aimed_standing_never_has_a_lot(self):
        for day, delays in some_days(422, 150, 10):
            told = Told(day, delays)
            for row in played(day, delays):
                told.do(*row)
                self.assertEqual(told_greatest(day[0], told.aimed()), ())
        bare = (BOTH, (2, 2, 2, 2), ((EAST, 0, (0, 0, 0), 0), (WEST, 0, (0, 0, 0), 0), (plain((1,)), 0, (0,), 0)))
        told = Told(bare, ())
        log = (
            (0, 0, "in", 0), (0, 1, "in", 2), (0, 0, "go", 1), (2, 0, "at", 1), (2, 0, "go", 2), (4, 0, "at", 2), (4, 0, "out", 2), (4, 1, "go", 1), (6, 1, "at", 1), (6, 1, "go", 0),
            (8, 1, "at", 0), (8, 1, "out", 0), (8, 2, "in", 1), (9, 2, "out", 1),
        )
        self.gives(None, log_error, bare, log)
        for row in log:
            told.do(*row)
            self.assertEqual(told_greatest(BOTH, told.aimed()), ())

    def test_delays_that_are_all_0_and_such_that_are_added(self):
        chance = random.Random(423)
        for day, _ in some_days(424, 60, 20):
            zero = tuple([(0,) * (len(stays) + 1) for _, _, stays, _ in day[2]])
            self.assertEqual(played(day, zero), played(day, ()))
            late = tuple([tuple([chance.choice((0, 0, 3, 40)) for _ in waits]) for waits in zero])
            greater = tuple([
                (way, entry + more[0], tuple([stay + add for stay, add in zip(stays, more[1:])]), rank) for (way, entry, stays, rank), more in zip(day[2], late)
            ])
            self.assertIsNone(day_error(day[:2] + (greater,)))
            self.assertEqual(played(day[:2] + (greater,), ()), played(day, late))

    def test_days_that_differ_in_ranks_end_all_the_same(self):
        chance = random.Random(425)
        for day, delays in some_days(426, 30, 10):
            other = day[:2] + (tuple([told[:3] + (chance.randint(0, 40),) for told in day[2]]),)
            self.assertIsNone(log_error(day, played(other, delays)))

    def test_nets_and_ways_are_such(self):
        for day, _ in some_days(427, 40, 10):
            self.assertEqual(told_ungated(day[0]), ())
            self.assertEqual([way_error(day[0], told[0]) for told in day[2]], [None] * len(day[2]))
        self.assertTrue(all(net_error(net) is None for net in gated_nets(428, 20)))


if __name__ == "__main__":
    unittest.main()

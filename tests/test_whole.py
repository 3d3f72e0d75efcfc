"""The whole program: [A2], [M1], and what its parts have to tell of one another."""

import itertools
import random
import unittest

from support import (
    OfficeCase, free_standings, gets_home, nearly_stuck, nets_of_all_kinds, small_nets, some_days, some_standings, told_behind, told_greatest,
    told_moves, told_ungated,
)

from singlegates.changes import home_past
from singlegates.days import played
from singlegates.daytexts import day_text, log_text, read_day, read_log
from singlegates.desks import Desk, desk_behind
from singlegates.errors import Refused, Unfit
from singlegates.gates import is_gated, ungated, widened
from singlegates.habits import home_by_habit, left_out, lesser_net
from singlegates.homes import home_paper, home_row, paper_error, savable
from singlegates.lots import greatest_lot, lifted
from singlegates.moving import led, run_error
from singlegates.nettexts import net_text, read_net
from singlegates.offices import let_moves
from singlegates.rounds import fewest_stuck, lightest_round
from singlegates.shells import Shell
from singlegates.standings import without
from singlegates.standingtexts import read_run, read_standing, run_text, standing_text
from singlegates.traps import late_trap, trap, trap_error
from singlegates.ways import is_plain


def all_ways(net, station, steps):
    """All ways from station of at most so many steps."""
    if steps == 0:
        return [(station, ())]
    found = []
    targets = [target for origin, target in net[1] if origin == station]
    for many in range(len(targets) + 1):
        for chosen in itertools.combinations(targets, many):
            found += [(station, further) for further in itertools.product(*[all_ways(net, target, steps - 1) for target in chosen])]
    return found


class MainSentence(OfficeCase):
    def test_all_standings_of_all_small_nets(self):
        """In each net of up to three stations with one track: all ways of up to two steps, at all stations at once."""
        nets = stuck = 0
        for net in small_nets():
            if len(net[1]) > 4:
                continue
            nets += 1
            ways = [[None] + all_ways(net, station, 2) for station in range(len(net[0]))]
            ways = [[way for way in there if way is None or is_plain(way) or len(net[1]) < 4] for there in ways]
            looked_ahead = False
            for standing in itertools.product(*ways):
                home = savable(net, standing)
                lot = greatest_lot(net, standing)
                self.assertFalse(home and lot)
                if not home and not lot:
                    looked_ahead = True
                    break
                stuck += lot != ()
            self.assertEqual(looked_ahead, not is_gated(net), net)
        self.assertEqual(nets, 1 + 4 + 57)
        self.assertGreater(stuck, 100)

    def test_nets_of_all_kinds(self):
        told = {True: 0, False: 0}
        for net, standing in list(nearly_stuck(461, 100, (1, 2))) + list(some_standings(462, 60)):
            told[is_gated(net)] += 1
            self.assertEqual(is_gated(net), told_ungated(net) == ())
            if is_gated(net):
                self.assertRaises(Unfit, trap, net)
                home = gets_home(net, standing, 800)
                self.assertTrue(home is None or home == (greatest_lot(net, standing) == ()))
                self.assertIsNone(paper_error(net, standing, home_paper(net, standing)))
            else:
                self.assertIsNone(trap_error(net, trap(net)))
                self.assertEqual(let_moves(net, trap(net)), ())
                self.assertTrue(is_gated(widened(net)))
                self.assertEqual(sum(widened(net)[0]) - sum(net[0]), len(ungated(net)))
        self.assertGreater(min(told.values()), 50)


class Fewest(OfficeCase):
    def test_no_fewer_trains_are_stuck(self):
        for net, standing in nearly_stuck(463, 120, (1, 2)):
            least = lightest_round(net)
            if greatest_lot(net, standing):
                self.assertGreaterEqual(len([item for item in standing if item is not None]), least[0])
                self.assertEqual(greatest_lot(net, without(standing, lifted(net, standing))), ())
            if least is not None:
                self.assertEqual(len(fewest_stuck(net)), least[0])
                self.assertNotEqual(greatest_lot(net, fewest_stuck(net)), ())
                self.assertEqual(greatest_lot(net, fewest_stuck(net)[1:]), ())


class Together(OfficeCase):
    def test_desks_days_and_homes_agree(self):
        for day, delays in some_days(464, 80, 8):
            net, _, trains = day
            log = played(day, delays)
            desk = Desk(net, ())
            numbers = {}
            for _, train, word, station in log:
                if word == "in" and desk.version() < 40:
                    numbers[train] = len(desk.standing())
                    desk.make(("in", trains[train][0]))
                elif word == "go" and train in numbers and desk.version() < 40:
                    desk.make(("move", numbers[train], station))
                elif word == "out" and train in numbers and desk.version() < 40:
                    desk.make(("move", numbers[train], None))
                if desk.version() == 40:
                    break
            self.assertEqual(told_greatest(net, desk.standing()), ())
            self.assertEqual(desk_behind(net, (), desk.log()), desk)

    def test_shells_and_desks_agree_by_texts(self):
        for net, standing in free_standings(465, 60, (1, 2, 3)):
            shell = Shell()
            self.assertEqual(shell.say("net " + net_text(net)), "0 edits")
            self.assertEqual(shell.say("trains " + standing_text(standing)), "0 edits")
            shown, _, trains = shell.say("show").partition(" / ")
            self.assertEqual((read_net(shown), read_standing(net, trains)), (net, standing))
            row = home_row(net, standing, tuple(range(len(standing))))
            answer = shell.say("home")
            self.assertEqual(read_run("" if answer == "-" else answer), row)
            self.assertEqual(run_text(row) or "-", answer)
            self.assertIsNone(paper_error(net, standing, ("row", row)))
            self.assertEqual(home_past(net, standing, ()), row)

    def test_a_gated_net_has_no_habit_and_all_get_off_by_it(self):
        for net, standing in free_standings(466, 60, (1, 2, 3)):
            self.assertEqual((left_out(net), lesser_net(net)), ((), net))
            plain_ones = tuple([item if item is None or is_plain(item) else None for item in standing])
            self.assertEqual(led(net, plain_ones, home_by_habit(net, plain_ones)), (None,) * len(standing))

    def test_days_and_logs_come_back_from_their_texts(self):
        for day, delays in some_days(467, 60, 60):
            log = played(day, delays)
            self.assertEqual(read_day(day_text(day)), day)
            self.assertEqual(read_log(log_text(log)), log)
            self.assertEqual(played(read_day(day_text(day)), delays), log)

    def test_a_desk_refuses_what_would_make_somebody_stuck(self):
        refused = 0
        for net, standing in free_standings(468, 100, (1, 2, 2)):
            for train, target in told_moves(net, standing):
                desk = Desk(net, standing)
                behind = told_behind(standing, (train, target))
                if told_greatest(net, behind):
                    refused += 1
                    with self.assertRaises(Refused) as caught:
                        desk.make(("move", train, target))
                    self.assertEqual(desk.standing(), standing)
                    self.assertIn(target, caught.exception.lot)
                else:
                    desk.make(("move", train, target))
                    self.assertEqual(desk.standing(), behind)
        self.assertGreater(refused, 20)

    def test_the_longer_the_row_the_later_the_trouble(self):
        for many in range(1, 9):
            net, standing = late_trap(many)
            self.assertEqual(is_gated(net), False)
            self.assertIs(savable(net, standing), False)
            for _ in range(many):
                self.assertEqual(greatest_lot(net, standing), ())
                standing = told_behind(standing, told_moves(net, standing)[0])
            self.assertNotEqual(greatest_lot(net, standing), ())

    def test_rows_are_runs(self):
        chance = random.Random(469)
        for net, standing in free_standings(470, 60, (1, 2, 12)):
            rank = list(range(len(standing)))
            chance.shuffle(rank)
            row = home_row(net, standing, tuple(rank))
            self.assertIsNone(run_error(net, standing, row))
            self.assertEqual(led(net, standing, row), (None,) * len(standing))

    def test_nets_of_all_kinds_have_lesser_nets_that_are_gated(self):
        for net in nets_of_all_kinds(471, 60):
            self.assertTrue(is_gated(lesser_net(net)))
            self.assertEqual(Desk(lesser_net(net), ()).net(), lesser_net(net))


if __name__ == "__main__":
    unittest.main()

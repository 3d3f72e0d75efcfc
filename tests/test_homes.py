"""Ways home: [A3], [H1] to [H4], and of [H5] and [M1] what holds of them."""

import random
import unittest

from support import (
    BOTH, LOOP, TEN, OfficeCase, all_lots, any_values, come_to, crowded, free_standings, gated_nets, gets_home, integers_not,
    nearly_stuck, nets_of_all_kinds, some_standings, told_behind, told_closure, told_greatest, told_lot, told_moves, told_ungated, turned_ranks,
)

from singlegates.errors import Stuck, TooMany, Unfit, Ungated
from singlegates.homes import home_paper, home_row, paper_error, savable
from singlegates.makers import eight_net, line_net, ring_net, star_net
from singlegates.moving import led
from singlegates.standings import steps_left
from singlegates.traps import trap
from singlegates.ways import longest, plain, shortest

LINE = ((1, 2, 1), ((0, 1), (1, 0), (1, 2), (2, 1)))
TIGHT = (plain((0, 1)), plain((1, 0)), plain((1, 0)), plain((2, 1, 0)))
NEAR = (plain((0, 1)), plain((1, 0)), plain((2, 1, 0)))
JAM = (plain((0, 1, 2)),) * 2 + (plain((2, 1, 0)),) * 2
ONE = ((1,), ())
RING = ring_net((4,) * 10)
FORTY = tuple([plain(tuple([(station + step) % 10 for step in range(13)])) for station in range(10) for _ in range(4)])
NEAR_ROW = ((0, 1), (1, 0), (2, 1), (1, None), (2, 0), (2, None), (0, None))
# Two lots apart: (0, 1) and (3, 4); and 2, whose train wants into both of them.
SHARED = (((2, 1, 1, 1, 2), ((0, 1), (1, 0), (2, 1), (2, 3), (3, 4), (4, 3))),
          (plain((0, 1)), plain((0, 1)), plain((1, 0)), (2, ((1, ()), (3, ()))), plain((3, 4)), plain((4, 3)), plain((4, 3))))
# Rows of stations of which the least one without a gate is not the first one.
FAR = ((2, 2, 2, 1, 1, 2), tuple(sorted([(k, k + 1) for k in range(5)] + [(k + 1, k) for k in range(5)])))


def told_row(net, standing, rank):
    """The row that home_row tells, read once more from the document; in it the standing has no lot, and all get off."""
    row = []
    while set(standing) - {None}:
        let = [move for move in told_moves(net, standing) if move[1] is None or told_closure(net, told_behind(standing, move), move[1]) == ()]
        row.append(min(let, key=lambda move: (rank.index(move[0]), move[1] or 0)))
        standing = told_behind(standing, row[-1])
    return tuple(row)


def told_error(net, standing, value):
    """What paper_error tells, read once more from the document."""
    if type(value) is not tuple or len(value) != 2 or type(value[0]) is not str:
        return "form"
    word, shown = value
    if word == "lot":
        right = type(shown) is tuple and all(type(item) is int and item in range(len(net[0])) for item in shown)
        return None if right and list(shown) == sorted(set(shown)) and told_lot(net, standing, shown) else "lot"
    if word != "row" or type(shown) is not tuple or len(shown) > 600:
        return "form"
    for spot, move in enumerate(shown):
        if repr(move) not in [repr(made) for made in told_moves(net, standing)]:
            return ("move", spot)
        standing = told_behind(standing, move)
    return "left" if set(standing) - {None} else None


class HomeRow(OfficeCase):
    def test_rows(self):
        self.gives(NEAR_ROW, home_row, LINE, NEAR, (2, 1, 0))
        self.gives(((0, 1), (0, None), (1, 0), (1, None), (2, 1), (2, 0), (2, None)), home_row, LINE, NEAR, (0, 1, 2))
        self.gives(((2, 2), (0, 1), (0, None), (2, 0), (2, None)), home_row, LOOP, (plain((0, 1)), None, plain((1, 2, 0))), (0, 1, 2))
        self.gives(((2, 2), (0, 1), (2, 0), (2, None), (0, None)), home_row, LOOP, (plain((0, 1)), None, plain((1, 2, 0))), (2, 0, 1))
        self.gives(((0, None),), home_row, ONE, ((0, ()),), (0,))
        self.gives(((1, None), (0, None), (2, None)), home_row, TEN, ((5, ()), (5, ()), (5, ())), (1, 0, 2))

    def test_no_trains(self):
        for net in (LINE, LOOP, ONE, TEN):
            self.gives((), home_row, net, (), ())
            self.gives((), home_row, net, (None,), (0,))
            self.gives((), home_row, net, (None,) * 40, tuple(range(39, -1, -1)))

    def test_40_trains(self):
        standing = FORTY[:39] + ((9, ()),)
        self.assertEqual(steps_left(standing), 39 * 13 + 1)
        for rank in (tuple(range(40)), tuple(range(39, -1, -1))):
            row = self.got(home_row, RING, standing, rank)
            self.assertEqual(len(row), 508)
            self.assertEqual(led(RING, standing, row), (None,) * 40)
            self.assertEqual(row[0], (39, None))
        self.refuses(Stuck, {"lot": tuple(range(10))}, home_row, RING, FORTY, tuple(range(40)))

    def test_no_ranks(self):
        for net, standing in ((LINE, NEAR), (LINE, TIGHT), (BOTH, JAM), (LOOP, (plain((0, 1)), None, plain((1, 2, 0)))), (LINE, ()), (TEN, (None,) * 40)):
            for value in turned_ranks(standing):
                self.refuses(Unfit, {}, home_row, net, standing, value)
        for value in any_values():
            self.refuses(Unfit, {}, home_row, LINE, NEAR, value)
        for wrong in integers_not():
            self.refuses(Unfit, {}, home_row, LOOP, (plain((1,)),), (wrong,))

    def test_nets_that_are_not_gated(self):
        self.refuses(Ungated, {"station": 1}, home_row, BOTH, JAM, (0, 1, 2, 3))
        self.refuses(Ungated, {"station": 1}, home_row, BOTH, (), ())
        self.refuses(Ungated, {"station": 1}, home_row, BOTH, (None, (0, ())), (1, 0))
        self.refuses(Ungated, {"station": 3}, home_row, FAR, (), ())
        self.refuses(Ungated, {"station": 0}, home_row, star_net((1, 4, 4)), (), ())
        self.refuses(Ungated, {"station": 0}, home_row, ((1,) * 10, TEN[1]), (None,) * 40, tuple(range(40)))

    def test_lots(self):
        self.refuses(Stuck, {"lot": (0, 1, 2)}, home_row, LINE, TIGHT, (0, 1, 2, 3))
        self.refuses(Stuck, {"lot": (0, 1, 2)}, home_row, LINE, TIGHT, (3, 0, 2, 1))
        self.refuses(Stuck, {"lot": (0, 1, 2, 3, 4)}, home_row, *SHARED, tuple(range(7)))
        self.refuses(Stuck, {"lot": (0, 1)}, home_row, LINE, TIGHT[:3] + ((2, ()),), (3, 0, 1, 2))
        self.refuses(Stuck, {"lot": (0, 1, 3, 4)}, home_row, SHARED[0], SHARED[1][:3] + (None,) + SHARED[1][4:], tuple(range(7)))

    def test_several_errors_at_once(self):
        jam = (plain((0, 1)),) * 2 + (plain((1, 0)),)
        self.refuses(Unfit, {}, home_row, BOTH, jam, (0, 1))
        self.refuses(Unfit, {}, home_row, BOTH, JAM, [0, 1, 2, 3])
        self.refuses(Unfit, {}, home_row, LINE, TIGHT, (0, 1, 2, 2))
        self.refuses(Ungated, {"station": 1}, home_row, BOTH, jam, (0, 1, 2))

    def test_all_kinds_of_standings(self):
        chance = random.Random(221)
        for net, standing in free_standings(222, 100, (1, 2, 3)):
            rank = tuple(chance.sample(range(len(standing)), len(standing)))
            self.gives(told_row(net, standing, rank), home_row, net, standing, rank)

    def test_all_kinds_of_errors(self):
        told = {}
        for net, standing in list(crowded(223, 60)) + list(nearly_stuck(224, 60, (1, 2))) + list(some_standings(225, 60)):
            rank = tuple(range(len(standing)))[::-1]
            if told_ungated(net):
                self.refuses(Ungated, {"station": told_ungated(net)[0]}, home_row, net, standing, rank)
            elif told_greatest(net, standing):
                self.refuses(Stuck, {"lot": told_greatest(net, standing)}, home_row, net, standing, rank)
                told["lot"] = told.get("lot", 0) + 1
            else:
                self.assertEqual(home_row(net, standing, rank), told_row(net, standing, rank))
        self.assertGreater(told["lot"], 20)


class HomePaper(OfficeCase):
    def test_papers(self):
        self.gives(("row", ()), home_paper, LINE, ())
        self.gives(("row", ()), home_paper, TEN, (None,) * 40)
        self.gives(("row", ((0, None),)), home_paper, ONE, ((0, ()),))
        word, lot = self.got(home_paper, LINE, TIGHT)
        self.assertEqual(word, "lot")
        self.assertIn(lot, ((0, 1), (0, 1, 2)))
        word, run = self.got(home_paper, LINE, NEAR)
        self.assertEqual((word, led(LINE, NEAR, run)), ("row", (None,) * 3))
        self.gives(("lot", tuple(range(10))), home_paper, RING, FORTY)
        self.assertEqual(self.got(home_paper, RING, FORTY[:39])[0], "row")

    def test_nets_that_are_not_gated(self):
        for standing in ((), JAM, (None,), (plain((0, 1)),) * 2 + (plain((1, 0)),), ((0, ()),)):
            self.refuses(Ungated, {"station": 1}, home_paper, BOTH, standing)
        self.refuses(Ungated, {"station": 3}, home_paper, FAR, ())
        self.refuses(Ungated, {"station": 0}, home_paper, eight_net((1, 2, 3), 1), (None,) * 40)

    def test_all_kinds_of_standings(self):
        words = {"row": 0, "lot": 0, None: 0}
        for net, standing in list(crowded(226, 100)) + list(free_standings(227, 60, (1, 2, 3))) + list(some_standings(228, 40)):
            if told_ungated(net):
                self.refuses(Ungated, {"station": told_ungated(net)[0]}, home_paper, net, standing)
                words[None] += 1
                continue
            paper = self.got(home_paper, net, standing)
            self.assertEqual((type(paper), len(paper), type(paper[1])), (tuple, 2, tuple))
            self.assertEqual(paper[0] == "lot", all_lots(net, standing) != [])
            self.assertIsNone(told_error(net, standing, paper), (net, standing, paper))
            self.gives(None, paper_error, net, standing, paper)
            words[paper[0]] += 1
        self.assertGreater(min(words.values()), 20, words)


class PaperError(OfficeCase):
    def test_right_papers(self):
        for net, standing, value in (
            (LINE, TIGHT, ("lot", (0, 1))), (LINE, TIGHT, ("lot", (0, 1, 2))), (LINE, NEAR, ("row", NEAR_ROW)), (LINE, (), ("row", ())), (LINE, (None,), ("row", ())),
            (BOTH, JAM[:3], ("row", ((2, 1), (2, 0), (2, None)))[:1] + (((0, 1), (0, 2), (0, None), (1, 1), (1, 2), (1, None), (2, 1), (2, 0), (2, None)),)),
            (BOTH, (), ("row", ())), (BOTH, (plain((0, 1)),) * 2 + (plain((1, 0)),), ("lot", (0, 1))), (SHARED[0], SHARED[1], ("lot", (3, 4))),
            (SHARED[0], SHARED[1], ("lot", (0, 1, 3, 4))),
        ):
            self.gives(None, paper_error, net, standing, value)

    def test_form(self):
        for value in any_values():
            self.gives("form", paper_error, LINE, NEAR, value)
            self.gives("form", paper_error, LINE, NEAR, (value,))
            self.gives("form", paper_error, LINE, NEAR, (value, ()))
            self.gives("form", paper_error, LINE, NEAR, (value, NEAR_ROW))
            told = "form" if type(value) is not tuple or len(value) > 600 else ("move", 0) if value else "left"
            self.gives(told, paper_error, LINE, NEAR, ("row", value))
            self.gives("lot", paper_error, LINE, TIGHT, ("lot", value))
        for value in (
            ("lot",), ("row",), ("rows", ()), ("Row", ()), ("ROW", ()), ("lots", (0, 1)), ("", ()), ["row", NEAR_ROW], ("row", list(NEAR_ROW)), ("row", NEAR_ROW, ()),
            ("lot", (0, 1), 0), {"row": NEAR_ROW}, "row", "lot", (NEAR_ROW, "row"), ("row", None), ("row", 0), ("row", "0>1"), (("row",), ()), ("none",), ("gate", 1),
            ("row", {}), (None, NEAR_ROW), (0, ()), ("row ", ()), ((0, 1), "lot"),
        ):
            self.gives("form", paper_error, LINE, NEAR, value)
            self.gives("form", paper_error, LINE, TIGHT, value)

    def test_600_items_and_601(self):
        for many in (600, 601, 602):
            self.gives(("move", 0) if many == 600 else "form", paper_error, LINE, NEAR, ("row", ((1, 0),) * many))
            self.gives(("move", 7) if many == 600 else "form", paper_error, LINE, NEAR, ("row", NEAR_ROW + ((0, None),) * (many - 7)))
            self.gives(("move", 0) if many == 600 else "form", paper_error, BOTH, (), ("row", (0,) * many))
        self.gives(("move", 0), paper_error, LINE, (), ("row", (None,) * 600))
        self.gives("form", paper_error, LINE, (), ("row", (None,) * 601))
        self.gives("lot", paper_error, LINE, TIGHT, ("lot", (0,) * 601))

    def test_move(self):
        for spot in range(7):
            for wrong in (NEAR_ROW[spot - 1], (3, 1), (-1, 1), (True, 1), (0, True), None, 0, (), list(NEAR_ROW[spot]), NEAR_ROW[spot] + (0,), (1, 10 ** 399), "1>0"):
                if (spot, wrong) != (0, NEAR_ROW[0]):
                    self.gives(("move", spot), paper_error, LINE, NEAR, ("row", NEAR_ROW[:spot] + (wrong,) + NEAR_ROW[spot + 1:]))
        self.gives(("move", 1), paper_error, LINE, NEAR, ("row", ((0, 1), (2, 1))))
        self.gives(("move", 1), paper_error, BOTH, JAM, ("row", ((0, 1), (0, 2))))
        self.gives(("move", 0), paper_error, LINE, TIGHT, ("row", ((0, 1),)))
        self.gives(("move", 7), paper_error, LINE, NEAR, ("row", NEAR_ROW + ((0, None),)))
        self.gives(("move", 0), paper_error, LINE, (), ("row", ((0, None),)))
        self.gives(("move", 0), paper_error, LINE, (None,), ("row", ((0, None),)))

    def test_left(self):
        for many in range(7):
            self.gives("left", paper_error, LINE, NEAR, ("row", NEAR_ROW[:many]))
        self.gives("left", paper_error, LINE, TIGHT, ("row", ()))
        self.gives("left", paper_error, LINE, (None, (0, ())), ("row", ()))
        self.gives("left", paper_error, BOTH, JAM, ("row", ((0, 1),)))

    def test_a_row_that_makes_somebody_stuck(self):
        self.gives("left", paper_error, LINE, NEAR, ("row", ((2, 1),)))
        self.gives(("move", 1), paper_error, LINE, NEAR, ("row", ((2, 1), (0, 1))))
        self.gives("lot", paper_error, LINE, NEAR, ("lot", (0, 1)))

    def test_lot(self):
        for value in ((1, 2), (0,), (), (1, 0), [0, 1], (0, 1, 3), (0, True), (False, 1), None, 0, "01", (0, 1, 1), ((0, 1),), ("0", "1"), (0, 1, 10 ** 399), (-1, 0, 1)):
            self.gives("lot", paper_error, LINE, TIGHT, ("lot", value))
        for value in ((0, 1), (0, 1, 2), (1, 2), ()):
            self.gives("lot", paper_error, LINE, NEAR, ("lot", value))

    def test_all_kinds_of_papers(self):
        chance = random.Random(231)
        told = {}
        for net, standing in list(crowded(232, 60)) + list(nearly_stuck(233, 60, (1, 2))) + list(free_standings(234, 40, (1, 2))):
            papers = [("lot", tuple(sorted(chance.sample(range(len(net[0])), chance.randint(1, len(net[0]))))))]
            papers += [("lot", lot) for lot in all_lots(net, standing)[:3]]
            now, run = standing, []
            while told_moves(net, now) and chance.random() < 0.97:
                run.append(chance.choice(told_moves(net, now)))
                now = told_behind(now, run[-1])
            papers.append(("row", tuple(run)))
            if run:
                spot = chance.randrange(len(run))
                papers += [("row", tuple(run[:spot] + run[spot + 1:])), ("row", tuple(run[:spot] + [run[spot]] + run[spot:])), ("row", tuple(run[:-1]))]
            for paper in papers:
                error = told_error(net, standing, paper)
                self.gives(error, paper_error, net, standing, paper)
                told[error[0] if isinstance(error, tuple) else error] = True
        self.assertEqual(set(told), {None, "lot", "move", "left"})


def branched(many):
    """A way by the stations 0 to 6 with so many unlike parts of it, itself counted: from 2 to 37 of them."""
    arms = [many - 1] if many < 13 else [(many - 1) // 3, many // 3, (many + 1) // 3]
    further = []
    for last, arm in zip((4, 5, 6), arms):
        way = (last, ())
        for step in range(arm - 1):
            way = (last if step % 2 else last - 3, (way,))
        further.append(way)
    return (0, tuple(sorted(further)))


class Savable(OfficeCase):
    def test_savable(self):
        for net, standing, told in (
            (LINE, NEAR, True), (LINE, TIGHT, False), (BOTH, JAM, False), (BOTH, JAM[:3], True), (BOTH, (), True), (BOTH, (None,) * 40, True), (ONE, ((0, ()),), True),
            (BOTH, (plain((0, 1)),) * 2 + (plain((1, 0)),), False), (LINE, TIGHT[:3], False), (LINE, TIGHT[:2] + (None,) + TIGHT[3:], True), (RING, FORTY, False),
        ):
            self.gives(told, savable, net, standing)

    def test_625_standings_and_2497(self):
        wide, five = line_net((4, 4, 4, 4)), (plain((0, 1, 2, 3)),) * 4 + (plain((1, 2, 3)),)
        self.gives(True, savable, wide, five[:4])
        self.refuses(TooMany, {"limit": 2000}, savable, wide, five)

    def test_2000_standings_and_2001(self):
        ways = {many: branched(many - 1) for many in (3, 5, 16, 20, 23, 25, 29)}
        for many, way in ways.items():
            self.assertEqual(len(come_to(TEN, (way,), 100)), many)
        two = (0, ())
        for parts, told in (((25, 5, 16), 2000), ((20, 5, 20), 2000), ((29, 23, 3), 2001)):
            standing = tuple([ways[part] for part in parts])
            self.assertEqual(len(come_to(TEN, standing, 3000)), told)
            for order in (standing, standing[::-1], (None,) + standing):
                if told == 2000:
                    self.gives(True, savable, TEN, order)
                else:
                    self.refuses(TooMany, {"limit": 2000}, savable, TEN, order)
        self.gives(True, savable, TEN, (ways[25], ways[5], branched(7), two))
        self.assertEqual(len(come_to(TEN, (ways[25], ways[5], branched(7), two), 3000)), 2000)

    def test_2000_standings_and_2001_with_a_lot(self):
        net = ((4,) * 8 + (1, 1), tuple(sorted([line for line in TEN[1] if max(line) < 8] + [(8, 9), (9, 8)])))
        lot = (plain((8, 9)), plain((9, 8)))
        for parts, told in (((10, 10, 20), 2000), ((3, 23, 29), 2001)):
            standing = tuple([branched(part - 1) for part in parts]) + lot
            self.assertEqual(len(come_to(net, standing, 3000)), told)
            if told == 2000:
                self.gives(False, savable, net, standing)
            else:
                self.refuses(TooMany, {"limit": 2000}, savable, net, standing)

    def test_far_more(self):
        self.refuses(TooMany, {"limit": 2000}, savable, TEN, (branched(37),) * 3 + (branched(20),))
        self.refuses(TooMany, {"limit": 2000}, savable, RING, FORTY[:36])
        self.refuses(TooMany, {"limit": 2000}, savable, ((1,) * 10, TEN[1]), tuple([plain((station, 9)) for station in range(8)] + [plain((8, 9, 0))]))

    def test_all_kinds_of_standings(self):
        told = {True: 0, False: 0, None: 0}
        traps = [(net, trap(net)) for net in nets_of_all_kinds(244, 40) if told_ungated(net)]
        without_a_lot = 0
        for net, standing in list(crowded(241, 100)) + list(nearly_stuck(242, 40, (1, 2, 3))) + list(some_standings(243, 30)) + traps:
            home = gets_home(net, standing, 2000)
            if home is None:
                self.assertRaises(TooMany, savable, net, standing)
            else:
                self.assertIs(savable(net, standing), home, (net, standing))
                without_a_lot += not home and told_greatest(net, standing) == ()
            told[home] += 1
        self.assertGreater(min(told.values()), 30, told)
        self.assertGreater(without_a_lot, 50)


class WhatHolds(OfficeCase):
    def test_in_a_gated_net_just_those_without_a_lot_get_home(self):
        chance = random.Random(251)
        told = {True: 0, False: 0}
        for net, standing in list(crowded(252, 100)) + list(free_standings(253, 60, (1, 2, 3))):
            tracks = tuple(many + (station in told_ungated(net)) for station, many in enumerate(net[0]))
            net = (tracks, net[1])
            home = gets_home(net, standing, 2000)
            if home is None:
                continue
            told[home] += 1
            self.assertEqual(home, told_greatest(net, standing) == ())
            self.assertIs(savable(net, standing), home)
            if home:
                rank = tuple(chance.sample(range(len(standing)), len(standing)))
                many = len(home_row(net, standing, rank))
                self.assertLessEqual(many, steps_left(standing))
                if all(item is None or has_one_length(item) for item in standing):
                    self.assertEqual(many, steps_left(standing))
        self.assertGreater(min(told.values()), 30, told)

    def test_in_another_net_some_standing_without_a_lot_does_not(self):
        for net in (BOTH, line_net((1, 1, 1)), eight_net((1, 1, 2, 1, 1), 2), star_net((1, 2, 1)), line_net((2, 1, 1, 2))):
            self.assertEqual(told_greatest(net, trap(net)), ())
            self.assertIs(savable(net, trap(net)), False)

    def test_a_lot_never_gets_home(self):
        for net, standing in crowded(254, 100):
            if told_greatest(net, standing) and gets_home(net, standing, 2000) is not None:
                self.assertIs(savable(net, standing), False)

    def test_with_a_train_less_and_behind_let_moves(self):
        chance = random.Random(255)
        for net, standing in free_standings(256, 80, (1, 2, 3)):
            row = home_row(net, standing, tuple(range(len(standing))))
            for spot in range(len(row)):
                standing = told_behind(standing, row[spot])
                self.assertIsNone(paper_error(net, standing, ("row", row[spot + 1:])))
                train = chance.randrange(len(standing))
                fewer = standing[:train] + (None,) + standing[train + 1:]
                self.assertIsNone(paper_error(net, fewer, ("row", tuple([move for move in row[spot + 1:] if move[0] != train]))))
                self.assertEqual(len(home_paper(net, fewer)[1]), len(home_row(net, fewer, tuple(range(len(fewer))))))

    def test_widened_nets_are_all_gated(self):
        for net in gated_nets(257, 60):
            self.assertEqual(home_row(net, (), ()), ())


def has_one_length(way):
    """Whether all walks through each way have one length: no walk is shorter than another one."""
    return longest(way) == shortest(way)


if __name__ == "__main__":
    unittest.main()

"""Desks: [A3], [L1] to [L3], and of [L5] what holds of them."""

import copy
import inspect
import random
import unittest

from support import (
    BOTH, LOOP, TEN, OfficeCase, any_values, before_a_lot, counted, free_standings, integers_not, leaves, nets_of_all_kinds, some_way, spoilt,
    told_greatest, told_ungated,
)

from singlegates import desks
from singlegates.changes import let_in, line_shut, rewayed, track_taken
from singlegates.desks import Desk, desk_behind
from singlegates.errors import (
    BadMove, BadNet, BadStanding, BadWay, Full, Needed, NothingToRedo, NothingToUndo, NoVersion, OfficeError, Refused, Stuck, TooMany,
    TooManyEdits, Unfit, Ungated,
)
from singlegates.homes import home_row
from singlegates.lots import brought
from singlegates.makers import line_net, ring_net
from singlegates.moving import led, moved
from singlegates.nets import net_error, wider
from singlegates.standings import standing_error
from singlegates.ways import plain, way_error

ROUNDS, TWO = ((1, 1, 2), ((0, 1), (1, 2), (2, 0))), (plain((0, 1, 2)), plain((1, 2, 0)))
DUO, EAST = line_net((1, 2, 1)), plain((0, 1, 2))
ONE = ((1,), ())
WIDE = line_net((2, 2, 2))
FAR = 10 ** 399
PAIRS = ((1, 1, 1, 2, 1), ((0, 1), (1, 0), (2, 3), (3, 2), (3, 4), (4, 3)))
JAMMED_PAIR = (plain((0, 1)), plain((1, 0)))
METHODS = {
    "__init__": ("self", "net", "standing"), "net": ("self",), "standing": ("self",), "version": ("self",), "log": ("self",), "make": ("self", "edit"), "undo": ("self",),
    "redo": ("self",), "at": ("self", "version"), "copy": ("self",), "__eq__": ("self", "other"),
}
NO_EDITS = [
    ("move",), ("move", 0), ("move", 0, 1, 2), ("in",), ("in", EAST, 0), ("way", 0), ("way", EAST), ("way", 0, EAST, 0), ("shut", 0), ("shut", 0, 1, 2), ("shut", (0, 1)), ("take",),
    ("take", 0, 1), ("lay",), ("lay", 0, 1), ("", 0), ("moves", 0, 1), ("Move", 0, 1), ("MOVE", 0, 1), ("move ", 0, 1), ("undo",), ("redo",), ("net", ROUNDS), (0, 1), (0, 1, 2),
    ["move", 0, 1], ["take", 2], {"take": 2}, (("take", 2),), (["move"], 0, 1), ({}, 0), (None, 0), (True, 0), (("move", 0), 1), "take", "move 0 1", None, 0, (), ("shows", 1), (("lay",), 0),
]


def seen(desk):
    """All that can be seen of a desk, with what can be redone."""
    other = desk.copy()
    redone = []
    while True:
        try:
            other.redo()
        except NothingToRedo:
            break
        redone.append((other.log()[-1], other.net(), other.standing()))
    versions = tuple([desk.at(version) for version in range(desk.version() + 1)])
    return desk.net(), desk.standing(), desk.version(), desk.log(), versions, tuple(redone)


def told_edited(net, standing, edit):
    """Net and standing behind an edit, read once more from the document's table."""
    word, *rest = edit
    if word == "move":
        lot = brought(net, standing, tuple(rest))
        if lot != ():
            raise Refused(lot)
        return net, moved(net, standing, tuple(rest))
    if word == "in":
        return net, let_in(net, standing, rest[0])
    if word == "way":
        if type(rest[0]) is not int:
            raise Unfit()
        return net, rewayed(net, standing, rest[0], rest[1])
    if word == "shut":
        if not all(type(item) is int for item in rest) or tuple(rest) not in net[1]:
            raise Unfit()
        return line_shut(net, standing, *rest)
    if type(rest[0]) is not int or rest[0] not in range(len(net[0])):
        raise Unfit()
    if word == "take":
        left = track_taken(net, standing, rest[0])
        if told_ungated(left):
            raise Ungated(told_ungated(left)[0])
        return left, standing
    return wider(net, rest[0]), standing


class Model:
    """A desk, as the document's words tell it: all versions, all edits, and where among them it is."""

    def __init__(self, net, standing):
        self.versions, self.edits, self.now = [(net, standing)], [], 0

    def make(self, edit):
        if self.now == 40:
            raise TooManyEdits(40)
        behind = told_edited(*self.versions[self.now], edit)
        self.versions, self.edits = self.versions[:self.now + 1] + [behind], self.edits[:self.now] + [edit]
        self.now += 1

    def undo(self):
        if self.now == 0:
            raise NothingToUndo()
        self.now -= 1

    def redo(self):
        if self.now == len(self.edits):
            raise NothingToRedo()
        self.now += 1

    def seen(self):
        redone = [(edit, *behind) for edit, behind in zip(self.edits[self.now:], self.versions[self.now + 1:])]
        return (*self.versions[self.now], self.now, tuple(self.edits[:self.now]), tuple(self.versions[:self.now + 1]), tuple(redone))


def some_edit(chance, net, standing):
    """An edit, of which about half can be made."""
    stations, trains = range(-1, len(net[0]) + 1), range(-1, len(standing) + 1)
    station = chance.randrange(len(net[0]))
    way = some_way(chance, net, station, chance.choice((0, 1, 2, 4)), 12)[0]
    if chance.random() < 0.1:
        way = spoilt(chance, way)
    there = [train for train, item in enumerate(standing) if item is not None and item[0] == station]
    line = chance.choice(net[1]) if net[1] and chance.random() < 0.9 else (chance.choice(stations), chance.choice(stations))
    wanted = [(train, branch[0]) for train, item in enumerate(standing) if item is not None for branch in item[1]]
    wanted += [(train, None) for train, item in enumerate(standing) if item is not None and not item[1]]
    move = chance.choice(wanted) if wanted and chance.random() < 0.9 else (chance.choice(trains), chance.choice(list(stations) + [None, "out", True]))
    return chance.choice([("move",) + move] * 5 + [("in", way)] * 4 + [("way", chance.choice(there or [0]), way)] * 3 + [
        ("shut",) + line, ("take", chance.choice(stations)), ("take", station), ("lay", chance.choice(stations)), ("lay", station), ("way", chance.choice(trains), way),
        ("lay", True), ("take", "0"), ("shut", False, True), ("move", True, 0),
    ])


class DeskCase(OfficeCase):
    def raised(self, error, fields, call, *arguments, **named):
        with self.assertRaises(error, msg=(arguments, named)) as caught:
            call(*arguments, **named)
        self.assertIs(caught.exception.__class__, error)
        self.assertEqual(repr(vars(caught.exception)), repr(fields))

    def no_desk(self, error, fields, net, standing):
        kept = copy.deepcopy((net, standing))
        for _ in range(2):
            self.raised(error, fields, Desk, net, standing)
            self.raised(error, fields, Desk, standing=standing, net=net)
            self.raised(error, fields, desk_behind, net, standing, ())
        self.assertEqual(repr((net, standing)), repr(kept))

    def refuses_edit(self, error, fields, desk, edit):
        """The edit raises this, by place and by name, and changes nothing."""
        before, kept = seen(desk), repr(edit)
        for _ in range(2):
            self.raised(error, fields, desk.make, edit)
            self.raised(error, fields, desk.make, edit=edit)
        self.assertEqual(repr(seen(desk)), repr(before))
        self.assertEqual(repr(edit), kept)

    def makes(self, net, standing, desk, edit):
        """The edit is made, by place and by name, and net and standing are these then."""
        before = seen(desk)
        other = desk.copy()
        self.assertIsNone(other.make(edit=edit))
        self.assertIsNone(desk.make(edit))
        self.assertEqual(repr(seen(desk)), repr(seen(other)))
        self.assertEqual(repr(seen(desk)), repr((net, standing, before[2] + 1, before[3] + (edit,), before[4] + ((net, standing),), ())))


class NewDesk(DeskCase):
    def test_desks(self):
        for net, standing in ((ROUNDS, TWO), (ROUNDS, ()), (ONE, ()), (ONE, ((0, ()),)), (TEN, (None,) * 40), (DUO, (EAST, plain((1, 0)))), (LOOP, (EAST, None, (2, ())))):
            for desk in (Desk(net, standing), Desk(standing=standing, net=net), Desk(net, standing=standing)):
                self.assertEqual(repr(seen(desk)), repr((net, standing, 0, (), ((net, standing),), ())))
                self.raised(NothingToUndo, {}, desk.undo)
                self.raised(NothingToRedo, {}, desk.redo)

    def test_no_nets(self):
        for net in any_values() + [ROUNDS[:1], list(ROUNDS), ((1, 0, 2), ROUNDS[1]), ((1, True, 2), ROUNDS[1]), (ROUNDS[0], ROUNDS[1][::-1]), (ROUNDS[0], ((0, 0),)), ((1,) * 11, ()), (ROUNDS, ())]:
            self.assertIsNotNone(net_error(net))
            self.no_desk(BadNet, {"error": net_error(net)}, net, ())
        self.no_desk(BadNet, {"error": ("tracks", 1)}, ((1, 5), ()), None)

    def test_nets_that_are_not_gated(self):
        self.no_desk(BadNet, {"error": ("gates", (1,))}, BOTH, ())
        self.no_desk(BadNet, {"error": ("gates", (1, 2))}, line_net((1, 1, 1, 1)), ())
        self.no_desk(BadNet, {"error": ("gates", tuple(range(10)))}, ((1,) * 10, TEN[1]), (None,) * 40)

    def test_no_standings(self):
        for standing in any_values():
            error = standing_error(ROUNDS, standing)
            if error is not None:
                self.no_desk(BadStanding, {"error": error}, ROUNDS, standing)
        for standing, error in (
            ((plain((0, 2)),), ("way", 0, ("line", 1))), (list(TWO), "form"), ((None,) * 41, "form"), (TWO + ((0, ()),), ("full", 0)), ((None, (3, ())), ("way", 1, ("station", 0))),
            ((counted(41),), ("way", 0, "pairs")), ((True,), ("way", 0, "form")),
        ):
            self.no_desk(BadStanding, {"error": error}, ROUNDS, standing)

    def test_lots(self):
        self.no_desk(Stuck, {"lot": (0, 1, 2)}, ROUNDS, (plain((0, 1)), plain((1, 2)), plain((2, 0)), plain((2, 0))))
        self.no_desk(Stuck, {"lot": (0, 1)}, PAIRS, JAMMED_PAIR)
        self.no_desk(Stuck, {"lot": (0, 1, 2, 3)}, PAIRS, JAMMED_PAIR + (plain((2, 3)), plain((3, 2)), plain((3, 2))))
        self.no_desk(Stuck, {"lot": (0, 1, 2)}, DUO, (plain((0, 1)), plain((1, 0)), plain((1, 0)), plain((2, 1))))

    def test_several_errors_at_once(self):
        jam = (plain((0, 1)),) * 2 + (plain((1, 0)),)
        self.no_desk(BadNet, {"error": "form"}, None, None)
        self.no_desk(BadNet, {"error": ("order", 1)}, ((1, 1), ((1, 0), (0, 1))), (0,))
        self.no_desk(BadNet, {"error": ("gates", (1,))}, BOTH, jam)
        self.no_desk(BadNet, {"error": ("gates", (1,))}, BOTH, None)
        self.no_desk(BadStanding, {"error": ("way", 2, "form")}, PAIRS, JAMMED_PAIR + (0,))
        self.no_desk(BadStanding, {"error": ("full", 0)}, PAIRS, JAMMED_PAIR + ((0, ()),))

    def test_methods_and_their_arguments(self):
        for name, arguments in METHODS.items():
            function = vars(Desk)[name]
            self.assertTrue(inspect.isfunction(function), name)
            if name != "__eq__":
                self.assertEqual(tuple(inspect.signature(function).parameters), arguments)
        self.assertEqual(Desk.__module__, "singlegates.desks")
        self.assertEqual(Desk.__bases__, (object,))
        self.assertIs(vars(desks)["Desk"], Desk)


class Make(DeskCase):
    def test_move(self):
        desk = Desk(ROUNDS, TWO)
        self.makes(ROUNDS, (EAST, plain((2, 0))), desk, ("move", 1, 2))
        self.makes(ROUNDS, (plain((1, 2)), plain((2, 0))), desk, ("move", 0, 1))
        self.makes(ROUNDS, (plain((1, 2)), plain((0,))), desk, ("move", 1, 0))
        self.makes(ROUNDS, (plain((1, 2)), None), desk, ("move", 1, None))
        for edit, error in (
            (("move", 1, None), "gone"), (("move", 1, 0), "gone"), (("move", 0, None), "way"), (("move", 0, 0), "way"), (("move", 2, 0), "form"), (("move", -1, 0), "form"),
            (("move", True, None), "form"), (("move", 0, True), "form"), (("move", 0, "out"), "form"), (("move", "0", 2), "form"), (("move", 0, (2,)), "form"), (("move", FAR, 2), "form"),
            (("move", 0, FAR), "way"), (("move", None, None), "form"), (("move", [0], {}), "form"),
        ):
            self.refuses_edit(BadMove, {"error": error}, desk, edit)
        self.refuses_edit(BadMove, {"error": "full"}, Desk(ROUNDS, TWO), ("move", 0, 1))
        for value in any_values():
            self.refuses_edit(BadMove, {"error": "form"}, desk, ("move", value, 2))
            self.refuses_edit(BadMove, {"error": "way" if value is None or type(value) is int else "form"}, desk, ("move", 0, value))

    def test_move_refused(self):
        near = (plain((0, 1)), plain((1, 0)), plain((2, 1, 0)))
        self.refuses_edit(Refused, {"lot": (0, 1)}, Desk(DUO, near), ("move", 2, 1))
        self.makes(DUO, ((1, ()),) + near[1:], Desk(DUO, near), ("move", 0, 1))
        self.refuses_edit(Refused, {"lot": (1, 2)}, Desk(((1, 1, 1), ((0, 1), (1, 2), (2, 1))), (plain((0, 1, 2)), plain((2, 1)))), ("move", 0, 1))

    def test_in(self):
        desk = Desk(ROUNDS, TWO)
        self.makes(ROUNDS, TWO + (plain((2, 0)),), desk, ("in", plain((2, 0))))
        self.refuses_edit(Refused, {"lot": (0, 1, 2)}, desk, ("in", plain((2, 0))))
        self.refuses_edit(Full, {"station": 0}, desk, ("in", (0, ())))
        self.refuses_edit(BadWay, {"error": ("line", 1)}, desk, ("in", plain((2, 1))))
        self.makes(ROUNDS, TWO + (plain((2, 0)), (2, ())), desk, ("in", (2, ())))
        self.refuses_edit(Full, {"station": 2}, desk, ("in", (2, ())))
        for value in any_values():
            self.refuses_edit(BadWay, {"error": way_error(ROUNDS, value)}, desk, ("in", value))
        full = Desk(ROUNDS, TWO + (None,) * 38)
        self.refuses_edit(TooMany, {"limit": 40}, full, ("in", (2, ())))
        self.refuses_edit(Full, {"station": 1}, full, ("in", (1, ())))
        self.refuses_edit(BadWay, {"error": ("station", 0)}, full, ("in", (3, ())))

    def test_way(self):
        desk = Desk(ROUNDS, TWO)
        self.makes(ROUNDS, ((0, ()), TWO[1]), desk, ("way", 0, (0, ())))
        for value in any_values():
            self.refuses_edit(Unfit, {}, desk, ("way", value, EAST))
            self.refuses_edit(BadWay, {"error": way_error(ROUNDS, value)}, desk, ("way", 0, value))
        for wrong in integers_not() + [2, 40, -1, FAR, -FAR]:
            self.refuses_edit(Unfit, {}, desk, ("way", wrong, EAST))
            self.refuses_edit(Unfit, {}, desk, ("way", wrong, None))
        self.refuses_edit(Unfit, {}, desk, ("way", 1, (0, ())))
        self.refuses_edit(BadWay, {"error": ("order", 2)}, Desk(DUO, ((1, ()),)), ("way", 0, (1, leaves(2, 0))))
        self.refuses_edit(Unfit, {}, Desk(ROUNDS, (None,)), ("way", 0, (0, ())))
        jam = Desk(DUO, (plain((0, 1)), plain((1, 0)), (1, ())))
        self.refuses_edit(Refused, {"lot": (0, 1)}, jam, ("way", 2, plain((1, 0))))
        self.makes(DUO, (plain((0, 1)), plain((1, 0)), plain((1, 2))), jam, ("way", 2, plain((1, 2))))

    def test_shut(self):
        tri = ((2, 2, 2), ((0, 1), (0, 2), (1, 0), (1, 2), (2, 0), (2, 1)))
        either = (0, ((1, ((2, ()),)), (2, ())))
        self.makes(((2, 2, 2), ((0, 1), (0, 2), (1, 0), (2, 0), (2, 1))), (plain((0, 2)),), Desk(tri, (either,)), ("shut", 1, 2))
        self.makes(((2, 2, 2), tri[1][1:]), (plain((0, 2)),), Desk(tri, (either,)), ("shut", 0, 1))
        self.makes(ring_net((1, 1, 2))[:1] + (((0, 1), (1, 2)),), (), Desk(ROUNDS, ()), ("shut", 2, 0))
        desk = Desk(tri, (either, None, plain((1, 2))))
        self.refuses_edit(Needed, {"trains": (2,)}, desk, ("shut", 1, 2))
        for origin, target in ((0, 0), (0, 3), (3, 0), (-1, 0), (FAR, 1), (True, 0), (0, True), (False, 2), (1, False), ("0", 1), (0, "1"), (None, None), ([0], 1), ((0, 1), 0)):
            self.refuses_edit(Unfit, {}, desk, ("shut", origin, target))
        for value in any_values():
            self.refuses_edit(Unfit, {}, desk, ("shut", value, 1))
            self.refuses_edit(Unfit, {}, desk, ("shut", 2, value))
        self.refuses_edit(Refused, {"lot": (0, 1)}, Desk(tri, ((0, leaves(1, 2)),) * 2 + (plain((1, 0)),) * 2), ("shut", 0, 2))
        self.makes(((2, 2, 2), tri[1][1:]), (plain((0, 2)),) * 2 + (plain((1, 0)),) * 2, Desk(tri, ((0, leaves(1, 2)),) * 2 + (plain((1, 0)),) * 2), ("shut", 0, 1))

    def test_take(self):
        desk = Desk(WIDE, ())
        self.makes(((1, 2, 2), WIDE[1]), (), desk, ("take", 0))
        self.refuses_edit(Unfit, {}, desk, ("take", 0))
        self.refuses_edit(Ungated, {"station": 1}, desk, ("take", 1))
        self.makes(((1, 2, 1), WIDE[1]), (), desk, ("take", 2))
        for wrong in integers_not() + [3, 10, -1, -2, FAR, -FAR, 0, 2]:
            self.refuses_edit(Unfit, {}, desk, ("take", wrong))
        for value in any_values():
            self.refuses_edit(Unfit, {}, desk, ("take", value))
        full = Desk(WIDE, ((1, ()), (1, ()), plain((0, 1))))
        self.refuses_edit(Full, {"station": 1}, full, ("take", 1))
        jam = Desk(WIDE, (plain((0, 1)), plain((1, 0)), plain((1, 0))))
        self.refuses_edit(Refused, {"lot": (0, 1)}, jam, ("take", 0))
        self.refuses_edit(Full, {"station": 1}, jam, ("take", 1))

    def test_take_refused_comes_ahead_of_ungated(self):
        jam = Desk(WIDE, (plain((0, 1)), plain((0, 1)), plain((1, 0))))
        self.refuses_edit(Refused, {"lot": (0, 1)}, jam, ("take", 1))
        rows = Desk(line_net((2, 2, 2, 2)), ())
        self.refuses_edit(Ungated, {"station": 2}, rows, ("take", 2))
        joined = ((2, 1, 1, 2), ((0, 1), (1, 0), (1, 2), (2, 3), (3, 1)))
        self.assertEqual(told_ungated(joined), (1,))
        two = Desk(((1, 2, 1, 2), joined[1]), ())
        self.refuses_edit(Ungated, {"station": 1}, two, ("take", 1))

    def test_lay(self):
        desk = Desk(ONE, ((0, ()),))
        for many in (2, 3, 4):
            self.makes(((many,), ()), ((0, ()),), desk, ("lay", 0))
        self.refuses_edit(Unfit, {}, desk, ("lay", 0))
        self.makes(((1, 1, 3), ROUNDS[1]), TWO, Desk(ROUNDS, TWO), ("lay", 2))
        desk = Desk(ROUNDS, TWO)
        for wrong in integers_not() + [3, 10, -1, -2, FAR, -FAR]:
            self.refuses_edit(Unfit, {}, desk, ("lay", wrong))
        for value in any_values():
            self.refuses_edit(Unfit, {}, desk, ("lay", value))

    def test_no_edits(self):
        desk = Desk(ROUNDS, TWO)
        desk.make(("lay", 0))
        for value in NO_EDITS + any_values():
            self.refuses_edit(Unfit, {}, desk, value)
        for word in ("move", "in", "way", "shut", "take", "lay"):
            for many in range(6):
                if many != {"move": 3, "in": 2, "way": 3, "shut": 3, "take": 2, "lay": 2}[word]:
                    self.refuses_edit(Unfit, {}, desk, (word,) + (0,) * (many - 1))

    def test_40_edits_and_one_more(self):
        desk = Desk(((1, 1), ()), ())
        for spot in range(40):
            desk.make(("lay", 0) if spot % 2 == 0 else ("take", 0))
        self.assertEqual(desk.version(), 40)
        for edit in (("lay", 0), ("take", 0), ("in", None), ("move", 0, 0), ("shut", 0, 0), ("lay", 5), ("way", 0, 0)):
            self.refuses_edit(TooManyEdits, {"limit": 40}, desk, edit)
        for edit in NO_EDITS:
            self.refuses_edit(Unfit, {}, desk, edit)
        desk.undo()
        self.assertEqual(desk.version(), 39)
        desk.redo()
        self.refuses_edit(TooManyEdits, {"limit": 40}, desk, ("lay", 0))
        self.assertEqual([desk.at(version)[0][0] for version in (0, 1, 39, 40)], [(1, 1), (2, 1), (2, 1), (1, 1)])
        desk.undo()
        self.makes(((2, 2), ()), (), desk, ("lay", 1))


class UndoRedoAtAndCopy(DeskCase):
    def edited(self):
        desk = Desk(ROUNDS, TWO)
        for edit in (("in", plain((2, 0))), ("move", 1, 2), ("lay", 1)):
            desk.make(edit)
        return desk

    def test_undo_and_redo(self):
        desk = self.edited()
        whole = seen(desk)
        for version in (2, 1, 0):
            self.assertIsNone(desk.undo())
            self.assertEqual((desk.version(), desk.log()), (version, whole[3][:version]))
            self.assertEqual((desk.net(), desk.standing()), whole[4][version])
        for _ in range(2):
            self.raised(NothingToUndo, {}, desk.undo)
            self.assertEqual(desk.version(), 0)
        for version in (1, 2, 3):
            self.assertIsNone(desk.redo())
            self.assertEqual((desk.version(), desk.log()), (version, whole[3][:version]))
            self.assertEqual((desk.net(), desk.standing()), whole[4][version])
        for _ in range(2):
            self.raised(NothingToRedo, {}, desk.redo)
        self.assertEqual(repr(seen(desk)), repr(whole))

    def test_a_new_edit_takes_away_what_could_be_redone(self):
        desk = self.edited()
        desk.undo()
        desk.undo()
        desk.make(("lay", 0))
        self.raised(NothingToRedo, {}, desk.redo)
        self.assertEqual(desk.log(), (("in", plain((2, 0))), ("lay", 0)))
        desk.undo()
        desk.redo()
        self.raised(NothingToRedo, {}, desk.redo)

    def test_a_refused_edit_does_not(self):
        desk = self.edited()
        desk.undo()
        self.refuses_edit(Unfit, {}, desk, ("lay", 3))
        self.refuses_edit(Unfit, {}, desk, None)
        desk.redo()
        self.assertEqual(repr(seen(desk)), repr(seen(self.edited())))

    def test_at(self):
        desk = self.edited()
        states = seen(desk)[4]
        for version in range(4):
            for _ in range(2):
                self.assertEqual(repr(desk.at(version)), repr(states[version]))
                self.assertEqual(desk.at(version=version), states[version])
        self.assertEqual((desk.at(0), desk.version()), ((ROUNDS, TWO), 3))
        for wrong in any_values() + integers_not() + [4, 5, -1, -2, FAR, -FAR]:
            if type(wrong) is not int or wrong not in range(4):
                self.raised(NoVersion, {"given": wrong}, desk.at, wrong)
                self.raised(NoVersion, {"given": wrong}, desk.at, version=wrong)
        desk.undo()
        self.raised(NoVersion, {"given": 3}, desk.at, 3)
        self.assertEqual(desk.at(2), states[2])
        self.raised(NoVersion, {"given": 1}, Desk(ONE, ()).at, 1)
        self.raised(NoVersion, {"given": False}, Desk(ONE, ()).at, False)

    def test_copies_go_their_own_ways(self):
        desk = self.edited()
        desk.undo()
        other = desk.copy()
        self.assertIsNot(other, desk)
        self.assertIs(type(other), Desk)
        self.assertEqual(repr(seen(other)), repr(seen(desk)))
        whole = seen(desk)
        other.make(("lay", 0))
        self.assertEqual(repr(seen(desk)), repr(whole))
        desk.redo()
        self.assertEqual(other.log()[-1], ("lay", 0))
        kept = seen(other)
        desk.undo()
        desk.undo()
        desk.undo()
        desk.make(("lay", 2))
        self.assertEqual(repr(seen(other)), repr(kept))
        other.undo()
        other.undo()
        self.assertEqual(desk.log(), (("lay", 2),))
        third = other.copy()
        third.redo()
        self.assertEqual((third.version(), other.version()), (2, 1))

    def test_what_was_returned_does_not_change(self):
        desk = self.edited()
        log, net, standing, state = desk.log(), desk.net(), desk.standing(), desk.at(1)
        kept = repr((log, net, standing, state))
        desk.make(("lay", 0))
        desk.undo()
        desk.undo()
        desk.undo()
        desk.make(("lay", 2))
        self.assertEqual(repr((log, net, standing, state)), kept)
        self.assertEqual([type(item) for item in (log, net, standing, state)], [tuple] * 4)

    def test_equal(self):
        desk = self.edited()
        for other in (self.edited(), desk.copy(), Desk(desk.net(), desk.standing()), desk):
            self.assertTrue(desk == other)
            self.assertFalse(desk != other)
        for other in (Desk(ROUNDS, TWO), Desk(desk.net(), ()), Desk(desk.net(), desk.standing() + (None,)), Desk(wider(desk.net(), 0), desk.standing())):
            self.assertFalse(desk == other)
            self.assertTrue(desk != other)
        for other in any_values() + [desk.at(3), (desk.net(), desk.standing()), desk.net(), desk.log(), Model(*desk.at(3)), Desk]:
            self.assertFalse(desk == other)
            self.assertFalse(other == desk)
            self.assertTrue(desk != other)
        there = self.edited()
        there.undo()
        self.assertFalse(there == desk)
        there.redo()
        self.assertTrue(there == desk)


class DeskBehind(DeskCase):
    def test_desk_behind(self):
        desk = Desk(ROUNDS, TWO)
        for edit in (("in", plain((2, 0))), ("move", 1, 2), ("lay", 1), ("take", 1)):
            desk.make(edit)
            for other in (desk_behind(ROUNDS, TWO, desk.log()), desk_behind(log=desk.log(), standing=TWO, net=ROUNDS)):
                self.assertTrue(other == desk)
                self.assertEqual(repr(seen(other)), repr(seen(desk)))
        self.assertEqual(repr(seen(desk_behind(ROUNDS, TWO, ()))), repr(seen(Desk(ROUNDS, TWO))))
        self.raised(NothingToRedo, {}, desk_behind(ROUNDS, TWO, desk.log()).redo)

    def refuses_log(self, error, fields, net, standing, log):
        kept = repr((net, standing, log))
        self.raised(error, fields, desk_behind, net, standing, log)
        self.raised(error, fields, desk_behind, log=log, net=net, standing=standing)
        self.assertEqual(repr((net, standing, log)), kept)

    def test_no_logs(self):
        for value in any_values() + [[], [("lay", 0)], {("lay", 0): 0}, None, 0, "lay", ("lay", 0), (("lay", 0), None), (("lay", 0), ["lay", 0]), ((("lay", 0),),)]:
            if value != () or not isinstance(value, tuple):
                self.refuses_log(Unfit, {}, ROUNDS, TWO, value)
        for edit in NO_EDITS:
            self.refuses_log(Unfit, {}, ROUNDS, TWO, (("lay", 0), edit))

    def test_40_edits_and_41(self):
        log = (("lay", 0), ("take", 0)) * 20
        self.assertEqual(desk_behind(ROUNDS, TWO, log[:39]).version(), 39)
        self.refuses_log(Full, {"station": 0}, ((2, 1, 2), ROUNDS[1]), TWO + ((0, ()),), (("take", 0),) * 40)
        free = desk_behind(ROUNDS, (), log)
        self.assertEqual((free.version(), free.log(), free.net()), (40, log, ROUNDS))
        self.refuses_log(Unfit, {}, ROUNDS, (), log + (("lay", 0),))
        self.refuses_log(Unfit, {}, ROUNDS, TWO, ((),) * 41)
        self.refuses_log(Unfit, {}, ROUNDS, (), (("move", 0, 0),) * 41)

    def test_what_the_first_one_raises_that_cannot_be_made(self):
        self.refuses_log(BadMove, {"error": "full"}, ROUNDS, TWO, (("lay", 0), ("move", 0, 1)))
        self.refuses_log(Refused, {"lot": (0, 1, 2)}, ROUNDS, TWO, (("in", plain((2, 0))), ("in", plain((2, 0))), ("hm",)))
        self.refuses_log(Unfit, {}, ROUNDS, TWO, (("lay", 0), ("hm",), ("move", 0, 1)))
        self.refuses_log(Needed, {"trains": (0, 1)}, ROUNDS, TWO, (("lay", 0), ("shut", 1, 2)))
        self.refuses_log(Ungated, {"station": 1}, WIDE, (), (("take", 0), ("take", 2), ("take", 1)))

    def test_what_desk_raises_comes_ahead(self):
        self.refuses_log(BadNet, {"error": "form"}, None, None, None)
        self.refuses_log(BadNet, {"error": ("gates", (1,))}, BOTH, (), [("lay", 1)])
        self.refuses_log(BadStanding, {"error": "form"}, ROUNDS, [], None)
        self.refuses_log(Stuck, {"lot": (0, 1)}, PAIRS, JAMMED_PAIR, None)
        self.refuses_log(Stuck, {"lot": (0, 1)}, PAIRS, JAMMED_PAIR, (("hm",),))


class WhatHolds(DeskCase):
    def starts(self, seed, many):
        """Gated nets and standings for them without a lot; small ones, so that edits matter."""
        for net, standing in free_standings(seed, many, (1, 2, 3)):
            if 1 < len(net[0]) < 7:
                yield net, standing[-12:]

    def outcome(self, call, *arguments):
        try:
            return repr(call(*arguments))
        except OfficeError as error:
            return repr((error.__class__.__name__, vars(error)))

    def test_whatever_is_made_undone_and_redone(self):
        chance = random.Random(441)
        told = {}
        for net, standing in self.starts(442, 150):
            desk, model = Desk(net, standing), Model(net, standing)
            first = (net, standing)
            for _ in range(25):
                word = chance.choice(("make",) * 8 + ("undo", "undo", "redo"))
                if word == "make":
                    edit = some_edit(chance, desk.net(), desk.standing())
                    outcome = self.outcome(desk.make, edit)
                    self.assertEqual(outcome, self.outcome(model.make, edit), (first, desk.log(), edit))
                    told[(edit[0], outcome.split(",")[0])] = told.get((edit[0], outcome.split(",")[0]), 0) + 1
                elif word == "undo":
                    self.assertEqual(self.outcome(desk.undo), self.outcome(model.undo))
                else:
                    self.assertEqual(self.outcome(desk.redo), self.outcome(model.redo))
                self.assertEqual((desk.net(), desk.standing()), model.versions[model.now])
                self.assertEqual(told_ungated(desk.net()), ())
                self.assertEqual(told_greatest(desk.net(), desk.standing()), ())
                self.assertIsNone(standing_error(desk.net(), desk.standing()))
            self.assertEqual(repr(seen(desk)), repr(model.seen()))
            self.assertTrue(desk_behind(*first, desk.log()) == desk)
            for version in range(desk.version() + 1):
                behind = desk_behind(*first, desk.log()[:version])
                self.assertEqual(desk.at(version), (behind.net(), behind.standing()))
            ranks = list(range(len(desk.standing())))
            chance.shuffle(ranks)
            row = home_row(desk.net(), desk.standing(), tuple(ranks))
            self.assertEqual(led(desk.net(), desk.standing(), row), (None,) * len(ranks))
        for word, outcomes in {
            "move": ("None", "('BadMove'", "('Refused'"), "in": ("None", "('BadWay'", "('Full'", "('Refused'"), "way": ("None", "('BadWay'", "('Unfit'", "('Refused'"),
            "shut": ("None", "('Unfit'", "('Needed'"), "take": ("None", "('Unfit'", "('Full'", "('Ungated'"), "lay": ("None", "('Unfit'"),
        }.items():
            for outcome in outcomes:
                self.assertGreater(told.get((word, outcome), 0), 0, (word, outcome, told))

    def test_equal_desks_with_unlike_logs_let_the_same_edits(self):
        chance = random.Random(443)
        for net, standing in self.starts(444, 40):
            desk = Desk(net, standing)
            for _ in range(8):
                self.outcome(desk.make, some_edit(chance, desk.net(), desk.standing()))
            other = Desk(desk.net(), desk.standing())
            for _ in range(10):
                edit = some_edit(chance, desk.net(), desk.standing())
                self.assertEqual(self.outcome(desk.make, edit), self.outcome(other.make, edit))
                self.assertTrue(desk == other)

    def test_moves_that_are_made_lead_all_trains_off(self):
        chance = random.Random(445)
        for net, standing in self.starts(446, 60):
            desk = Desk(net, standing[:3])
            while set(desk.standing()) - {None} and desk.version() < 40:
                moves = [("move", train, branch[0]) for train, item in enumerate(desk.standing()) if item is not None for branch in item[1]]
                moves += [("move", train, None) for train, item in enumerate(desk.standing()) if item is not None and not item[1]]
                made = [edit for edit in moves if self.outcome(desk.copy().make, edit) == "None"]
                self.assertNotEqual(made, [])
                desk.make(chance.choice(made))
            self.assertEqual(set(desk.standing()) - {None}, set())

    def test_only_desks_of_gated_nets_without_lots(self):
        chance = random.Random(447)
        told = {}
        for net in nets_of_all_kinds(448, 150):
            standing = before_a_lot(chance, net, (1, 2))
            if told_ungated(net):
                self.no_desk(BadNet, {"error": ("gates", told_ungated(net))}, net, standing)
                told["gates"] = True
            elif told_greatest(net, standing):
                self.no_desk(Stuck, {"lot": told_greatest(net, standing)}, net, standing)
                told["lot"] = True
            else:
                self.assertEqual(Desk(net, standing).at(0), (net, standing))
                told["desk"] = True
        self.assertEqual(len(told), 3)


if __name__ == "__main__":
    unittest.main()

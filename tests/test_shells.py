"""Shells: [A3], [L4]."""

import inspect
import random
import re
import unittest

from support import OfficeCase, any_values, free_standings, signs_changed, some_way

from singlegates.desks import Desk
from singlegates.errors import BadNet, BadText, Full, Needed, OfficeError, Refused, Stuck, Ungated
from singlegates.homes import home_row
from singlegates.nettexts import net_text, read_net
from singlegates.offices import let_moves
from singlegates.shells import Shell
from singlegates.standingtexts import read_standing, run_text, standing_text
from singlegates.waytexts import read_way, way_text

ROUNDS = "net 1 1 2: 0>1 1>2 2>0"
NUMBER = "(0|[1-9][0-9]?)"
FORMS = {word: re.compile(word + form) for word, form in {
    "move": f" {NUMBER} {NUMBER}", "out": "", "in": " ([^ ]*)", "way": f" {NUMBER} ([^ ]*)", "shut": f" {NUMBER} {NUMBER}", "take": f" {NUMBER}", "lay": f" {NUMBER}",
}.items()}
OUT = re.compile(f"move {NUMBER} out")


class ToldShell:
    """A shell, as the document's words tell it."""

    def __init__(self):
        self.desk = None

    def say(self, line):
        text = line if isinstance(line, str) else ""
        if self.desk is None and not text.startswith("net "):
            return "no desk"
        try:
            return self.answer(text)
        except BadText:
            return "what?"
        except OfficeError as error:
            return self.refusal(error)

    def refusal(self, error):
        if isinstance(error, (Refused, Stuck)):
            return "no: lot " + " ".join(map(str, error.lot))
        if isinstance(error, BadNet):
            return "no: gates " + " ".join(map(str, error.error[1]))
        if isinstance(error, Ungated):
            return f"no: gates {error.station}"
        if isinstance(error, Needed):
            return "no: needed " + " ".join(map(str, error.trains))
        return f"no: full {error.station}" if isinstance(error, Full) else "no"

    def answer(self, text):
        if text.startswith("net "):
            self.desk = Desk(read_net(text[len("net "):]), ())
        elif text.startswith("trains "):
            self.desk = Desk(self.desk.net(), read_standing(self.desk.net(), text[len("trains "):]))
        elif text == "undo":
            self.desk.undo()
        elif text == "redo":
            self.desk.redo()
        elif text in ("show", "let", "home"):
            return self.shown(text)
        else:
            self.desk.make(self.edit(text))
        return f"{self.desk.version()} edits"

    def shown(self, text):
        net, standing = self.desk.net(), self.desk.standing()
        if text == "show":
            return net_text(net) + " / " + standing_text(standing)
        if text == "let":
            return run_text(let_moves(net, standing)) if let_moves(net, standing) else "-"
        row = home_row(net, standing, tuple(range(len(standing))))
        return run_text(row) if row else "-"

    def edit(self, text):
        if OUT.fullmatch(text):
            return ("move", int(OUT.fullmatch(text)[1]), None)
        word = text.split(" ")[0]
        if word not in FORMS or word == "out" or not FORMS[word].fullmatch(text):
            raise BadText()
        parts = FORMS[word].fullmatch(text).groups()
        if word in ("in", "way"):
            return (word, *map(int, parts[:-1]), read_way(self.desk.net(), parts[-1]))
        return (word, *map(int, parts))


class ShellCase(OfficeCase):
    def says(self, *talk):
        """A new shell answers these lines so; each line that is answered no or what? or shown changes nothing."""
        shell, other = Shell(), Shell()
        for line, answer in talk:
            kept, before = repr(line), shell.say("show")
            self.assertEqual(shell.say(line), answer, (line, talk))
            self.assertEqual(other.say(line=line), answer)
            self.assertEqual(repr(line), kept)
            if not answer.endswith("edits"):
                self.assertEqual(shell.say("show"), before)
                self.assertEqual(shell.say(line), answer)
        self.assertEqual(shell.say("show"), other.say("show"))
        return shell


class Say(ShellCase):
    def test_talk(self):
        self.says(
            ("show", "no desk"), ("net 2 1 2: 0=1 1=2", "no: gates 1"), (ROUNDS, "0 edits"), ("trains 0-1-2;1-2-0", "0 edits"), ("in 2-0", "1 edits"), ("in 2-0", "no: lot 0 1 2"),
            ("let", "1>2"), ("move 1 2", "2 edits"), ("move 1 0", "no"), ("home", "0>1 1>0 0>2 0! 1! 2>0 2!"), ("take 2", "no: full 2"), ("undo", "1 edits"), ("undo", "0 edits"),
            ("undo", "no"), ("show", "1 1 2: 0>1 1>2 2>0 / 0-1-2;1-2-0"), ("take 2", "1 edits"), ("shut 0 1", "no: needed 0"), ("redo", "no"), ("hm", "what?"), ("net 1", "what?"),
            (7, "what?"), ("move 01 2", "what?"),
        )

    def test_no_desk(self):
        for line in (
            "show", "let", "home", "undo", "redo", "trains ", "trains 0", "move 0 1", "move 0 out", "in 0", "way 0 0", "shut 0 1", "take 0", "lay 0", "hm", "", " ", "net", "Net 1:", " net 1:",
            "nets 1:", "net:1", "what?", "\n",
        ):
            self.says((line, "no desk"), ("show", "no desk"))
        for value in any_values() + [None, 0, True, ["net 1:"], ("net 1:",), {"net 1:": 0}]:
            self.says((value, "no desk"))
        for line in ("net ", "net 1", "net 1 : ", "net  1:", "net 1: ", "net 0:", "net 1 1: 0>2", "net 1:\n", "net 1 1: 1=0", "net " + "9" * 5000, "net 1:" + " 0>1" * 4000):
            self.says((line, "what?"), ("show", "no desk"))
        self.says(("net 1:", "0 edits"), ("show", "1: / "))

    def test_net(self):
        self.says(("net 1 1 1: 0=1 1=2", "no: gates 1"), ("net 1 1 1 1: 0=1 1=2 2=3", "no: gates 1 2"), ("show", "no desk"))
        self.says(("net 2:", "0 edits"), ("in 0", "1 edits"), ("net 1 1 1: 0=1 1=2", "no: gates 1"), ("net x", "what?"), ("show", "2: / 0"), ("net 1 1: 0>1", "0 edits"),
                  ("show", "1 1: 0>1 / "), ("undo", "no"), ("redo", "no"))

    def test_trains(self):
        self.says(
            (ROUNDS, "0 edits"), ("lay 0", "1 edits"), ("trains 0-1-2;.;1", "0 edits"), ("show", "2 1 2: 0>1 1>2 2>0 / 0-1-2;.;1"), ("undo", "no"), ("redo", "no"),
            ("trains", "what?"), ("trains  ", "what?"), ("trains ;", "what?"), ("trains 0-2", "what?"), ("trains 1;1", "what?"), ("trains 0 1", "what?"), ("trains 3", "what?"),
            ("trains 0-1;0-1;1-2;2-0;2-0", "no: lot 0 1 2"), ("trains 00", "what?"), ("trains 0-1;", "what?"), ("Trains 0", "what?"), ("show", "2 1 2: 0>1 1>2 2>0 / 0-1-2;.;1"),
            ("trains ", "0 edits"), ("show", "2 1 2: 0>1 1>2 2>0 / "), ("trains .", "0 edits"), ("let", "-"), ("home", "-"), ("trains " + ";".join(["."] * 40), "0 edits"),
            ("in 0", "no"), ("trains " + ";".join(["."] * 41), "what?"),
        )

    def test_move(self):
        self.says(
            (ROUNDS, "0 edits"), ("trains 0-1;1;.;2-0", "0 edits"), ("move 0 1", "no"), ("move 1 out", "1 edits"), ("move 1 out", "no"), ("move 0 out", "no"), ("move 0 1", "2 edits"),
            ("move 0 out", "3 edits"), ("move 3 2", "no"), ("move 4 0", "no"), ("move 99 0", "no"), ("move 3 99", "no"), ("move 3 100", "what?"), ("move 100 0", "what?"), ("move 03 0", "what?"),
            ("move 3 00", "what?"), ("move 3 0 ", "what?"), ("move  3 0", "what?"), (" move 3 0", "what?"), ("move 3", "what?"), ("move", "what?"), ("move 3 Out", "what?"), ("move out 3", "what?"),
            ("move 3 out 0", "what?"), ("move 3 -1", "what?"), ("move -1 0", "what?"), ("move 3 +0", "what?"), ("move 3 x", "what?"), ("move 3\n0", "what?"), ("move 3 0\n", "what?"),
            ("move 3 None", "what?"), ("move 3 0", "4 edits"), ("move 3 out", "5 edits"), ("show", "1 1 2: 0>1 1>2 2>0 / .;.;.;."), ("home", "-"), ("let", "-"),
        )
        self.says(("net 1 2 1: 0=1 1=2", "0 edits"), ("trains 0-1;1-0;2-1-0", "0 edits"), ("move 2 1", "no: lot 0 1"), ("let", "0>1"), ("home", "0>1 0! 1>0 1! 2>1 2>0 2!"))

    def test_in_and_way(self):
        self.says(
            (ROUNDS, "0 edits"), ("in 0-1-2", "1 edits"), ("in 0", "no: full 0"), ("in 0-2", "what?"), ("in 3", "what?"), ("in", "what?"), ("in ", "what?"), ("in 1 2", "what?"),
            ("in 1-(2)", "what?"), ("in .", "what?"), ("in 1-2-0", "2 edits"), ("in 2-0", "3 edits"), ("in 2-0", "no: lot 0 1 2"), ("in 2", "4 edits"), ("in 2", "no: full 2"),
            ("way 0 0", "5 edits"), ("way 0 0-1", "6 edits"), ("way 3 2-0", "no: lot 0 1 2"), ("way 0 1", "no"), ("way 4 0", "no"), ("way 40 0", "no"), ("way 00 0", "what?"), ("way 0 0-2", "what?"),
            ("way 0", "what?"), ("way 0  0", "what?"), ("way 0 ", "what?"), ("way 0-1", "what?"), ("way 100 0", "what?"), ("way x 0", "what?"), ("way 0 0 0", "what?"), ("way -1 0", "what?"),
            ("show", "1 1 2: 0>1 1>2 2>0 / 0-1;1-2-0;2-0;2"),
        )
        for way in ("0-" * 1000 + "0", "0-(" * 300 + "0", "(" * 300, "0-1" * 3000, "9" * 6000):
            self.says((ROUNDS, "0 edits"), ("in " + way, "what?"), ("way 0 " + way, "what?"), ("trains " + way, "what?"))

    def test_shut_take_and_lay(self):
        self.says(
            ("net 2 2 2: 0=1 1=2", "0 edits"), ("take 0", "1 edits"), ("take 0", "no"), ("take 1", "no: gates 1"), ("shut 1 0", "2 edits"), ("shut 1 0", "no"), ("take 1", "3 edits"),
            ("show", "1 1 2: 0>1 1=2 / "), ("lay 1", "4 edits"), ("lay 1", "5 edits"), ("lay 1", "6 edits"), ("lay 1", "no"), ("lay 3", "no"), ("take 3", "no"), ("take 99", "no"), ("shut 0 9", "no"),
            ("shut 99 98", "no"), ("shut 0 0", "no"), ("take 100", "what?"), ("lay 00", "what?"), ("shut 0", "what?"), ("shut 0 1 2", "what?"), ("shut 0>1", "what?"), ("take", "what?"),
            ("take ", "what?"), ("lay x", "what?"), ("lay 1 1", "what?"), ("take -1", "what?"), ("shut 00 1", "what?"), ("trains 0-1-2;2;.;0", "what?"), ("trains 0-1-2;2;.;1-2", "0 edits"),
            ("shut 0 1", "no: needed 0"), ("shut 1 2", "no: needed 0 3"), ("take 2", "1 edits"), ("take 2", "no"), ("shut 2 1", "2 edits"), ("undo", "1 edits"), ("undo", "0 edits"),
            ("redo", "1 edits"), ("redo", "2 edits"), ("redo", "no"),
        )
        self.says(("net 1 3: 0=1", "0 edits"), ("trains 0-1;1-0;1-0", "0 edits"), ("take 1", "no: lot 0 1"), ("in 1", "1 edits"), ("take 1", "no: full 1"))
        self.says(("net 2 2 2: 0=1 0=2 1=2", "0 edits"), ("trains 0-(1|2);0-(1|2);1-0;1-0", "0 edits"), ("shut 0 2", "no: lot 0 1"), ("shut 0 1", "1 edits"))

    def test_undo_and_redo(self):
        self.says(
            (ROUNDS, "0 edits"), ("undo", "no"), ("redo", "no"), ("lay 0", "1 edits"), ("undo", "0 edits"), ("lay 9", "no"), ("hm", "what?"), ("redo", "1 edits"), ("undo", "0 edits"),
            ("lay 1", "1 edits"), ("redo", "no"), ("undo ", "what?"), (" undo", "what?"), ("redo 1", "what?"), ("Undo", "what?"), ("show", "1 2 2: 0>1 1>2 2>0 / "),
        )

    def test_40_edits(self):
        shell = Shell()
        shell.say("net 1 1:")
        for spot in range(40):
            self.assertEqual(shell.say("lay 0" if spot % 2 == 0 else "take 0"), f"{spot + 1} edits")
        self.assertEqual([shell.say(line) for line in ("lay 0", "lay 10", "lay", "show", "undo", "undo", "redo")], ["no", "no", "what?", "1 1: / ", "39 edits", "38 edits", "39 edits"])

    def test_no_lines(self):
        for line in (
            "", " ", "\n", "hm", "show ", " show", "show\n", "Show", "shows", "lets", "let ", "home ", "home 0", "let 0", "out", "quit", "help", "sho", "show let", "net", "nets 1:", "trains", "train 0",
            "move0 1", "in0", "take0", "makes", "?", "what?", "0 edits", "('lay', 0)", "lay\t0", "lay,0", "lay  0", "version", "log", "copy", "at 0",
        ):
            self.says((ROUNDS, "0 edits"), ("lay 0", "1 edits"), (line, "what?"), ("undo", "0 edits"))
        for value in any_values() + [None, 0, True, ["lay 0"], ("lay", 0), {"lay": 0}]:
            self.says((ROUNDS, "0 edits"), (value, "what?"), ("lay 0", "1 edits"))

    def test_numbers_of_two_figures_and_three(self):
        trains = ";".join(["."] * 11 + ["0-1"])
        self.says(
            ("net 1 1: 0=1", "0 edits"), ("trains " + trains, "0 edits"), ("move 11 1", "1 edits"), ("move 10 1", "no"), ("move 011 0", "what?"), ("move 111 0", "what?"), ("move 12 0", "no"),
            ("way 11 1-0", "2 edits"), ("way 011 1-0", "what?"), ("way 110 1-0", "what?"), ("lay 10", "no"), ("lay 010", "what?"), ("lay 100", "what?"), ("shut 10 11", "no"),
            ("shut 100 0", "what?"), ("take 99", "no"), ("take 999", "what?"), ("move 11 out", "no"), ("home", "11>0 11!"), ("let", "11>0"), ("move " + "1" * 5000 + " 0", "what?"),
            ("lay " + "0" * 5000, "what?"),
        )

    def test_no_is_told_with_what_is_in_the_way(self):
        self.says(("net 4 4: 0=1", "0 edits"), ("trains " + ";".join(["0-1"] * 4 + ["1-0"] * 4), "no: lot 0 1"), ("show", "4 4: 0=1 / "))
        lines = " ".join(f"{k}>{(k + 1) % 10}" for k in range(9)) + " 9>0"
        jam = ";".join(f"{k}-{(k + 1) % 10}" for k in range(10))
        self.says(("net 1 1 1 1 1 1 1 1 1 1: " + lines, "0 edits"), ("trains " + jam, "no: lot 0 1 2 3 4 5 6 7 8 9"), ("trains " + jam[:-4], "0 edits"), ("in 9-0", "no: lot 0 1 2 3 4 5 6 7 8 9"))
        self.says(("net 1 1: 0=1", "0 edits"), ("trains " + ";".join(["."] * 10 + ["0-1", "1"]), "0 edits"), ("shut 0 1", "no: needed 10"), ("in 1", "no: full 1"))

    def test_two_shells_by_turns(self):
        one, other = Shell(), Shell()
        self.assertEqual(one.say(ROUNDS), "0 edits")
        self.assertEqual(other.say("show"), "no desk")
        self.assertEqual(other.say("net 2:"), "0 edits")
        self.assertEqual([one.say("in 0-1"), other.say("in 0"), one.say("in 2"), other.say("undo"), other.say("undo"), one.say("undo")], ["1 edits", "1 edits", "2 edits", "0 edits", "no", "1 edits"])
        self.assertEqual((one.say("show"), other.say("show")), ("1 1 2: 0>1 1>2 2>0 / 0-1", "2: / "))
        third = Shell()
        self.assertEqual(third.say("show"), "no desk")

    def test_methods(self):
        self.assertEqual(tuple(inspect.signature(Shell).parameters), ())
        self.assertEqual(tuple(inspect.signature(vars(Shell)["say"]).parameters), ("self", "line"))
        self.assertEqual((Shell.__module__, Shell.__bases__), ("singlegates.shells", (object,)))

    def test_all_kinds_of_talk(self):
        chance = random.Random(451)
        told = {}
        for net, standing in list(free_standings(452, 120, (1, 2, 3))):
            shell, other = Shell(), ToldShell()
            standing = standing[-14:]
            lines = ["net " + net_text(net), "trains " + standing_text(standing)]
            for _ in range(25):
                number, station = chance.randrange(len(standing) + 1), chance.randrange(len(net[0]) + 1)
                way = way_text(some_way(chance, net, chance.randrange(len(net[0])), chance.choice((0, 1, 2)), 9)[0])
                origin, target = chance.choice(net[1]) if net[1] else (0, 1)
                line = chance.choice((
                    "show", "let", "home", "undo", "redo", f"move {number} {station}", f"move {number} out", f"in {way}", f"way {number} {way}", f"shut {origin} {target}", f"take {station}",
                    f"lay {station}", "LET", "LET", "LET",
                ))
                if line == "LET":
                    row = other.say("let").split(" ")
                    line = "move " + chance.choice(row).replace(">", " ").replace("!", " out")
                lines.append(line if chance.random() < 0.85 else next(signs_changed(chance, line, " 0123456789-(|)outnsw", 1)))
            for line in lines:
                answer = shell.say(line)
                self.assertEqual(answer, other.say(line), (lines, line))
                told[answer[:5]] = True
        self.assertLessEqual({"0 edi", "1 edi", "no", "what?", "no: l", "no: n", "no: f", "no: g", "-"}, set(told))


if __name__ == "__main__":
    unittest.main()

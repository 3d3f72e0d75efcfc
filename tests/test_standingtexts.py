"""Standings and runs as texts: [A3], [C8]."""

import random
import unittest

from support import BOTH, LOOP, TEN, OfficeCase, any_values, signs_changed, some_standings

from singlegates.errors import BadText
from singlegates.standings import standing_error
from singlegates.standingtexts import read_run, read_standing, run_text, standing_text
from singlegates.ways import plain

UP, DOWN = plain((0, 1, 2)), plain((2, 1, 0))
OPEN = (1, ((0, ()), (2, ())))
FORTY = tuple([plain((station, 9 - station)) for station in range(10) for _ in range(4)])
FORTY_TEXT = ";".join(["0-9"] * 4 + ["1-8"] * 4 + ["2-7"] * 4 + ["3-6"] * 4 + ["4-5"] * 4
                      + ["5-4"] * 4 + ["6-3"] * 4 + ["7-2"] * 4 + ["8-1"] * 4 + ["9-0"] * 4)
STANDINGS = [
    (BOTH, (UP, UP, DOWN, DOWN), "0-1-2;0-1-2;2-1-0;2-1-0"),
    (BOTH, (None, plain((1,)), UP), ".;1;0-1-2"),
    (BOTH, (), ""),
    (BOTH, (None,), "."),
    (BOTH, (None, None), ".;."),
    (BOTH, (OPEN, None, (2, ())), "1-(0|2);.;2"),
    (((1,), ()), ((0, ()),), "0"),
    (LOOP, (plain((2, 0, 1)), None, plain((1, 2))), "2-0-1;.;1-2"),
    (TEN, (None,) * 40, ";".join(["."] * 40)),
    (TEN, FORTY, FORTY_TEXT),
]
ALL_MOVES = [(train, target) for train in range(40) for target in (None, *range(10))]


class Standings(OfficeCase):
    def test_texts(self):
        for net, standing, text in STANDINGS:
            self.gives(text, standing_text, standing)
            self.gives(standing, read_standing, net, text)

    def test_texts_of_no_standing(self):
        for wrong in (
            "1;1", "0-1;", ";", ";0", "0;;2", "..", ". ", " .", ".;", ";.", "0 ;2", "0; 2", "0,2", "0.2", "0:2", "-", "0-", "-0",
            "0-2", "3", "00", "0-1-", "0-(1)", "1-(2|0)", "1-(0|2", "1-0|2)", "1-(0|2);", "0\n", "\n", "0;\n", "None", "0!", "0>1",
            "0;0;0", "2;2;.;2", "0-1;0-1;0-1", "\u0660", "+0", "1-()", "(0)", "0;(2)",
        ):
            self.refuses(BadText, {}, read_standing, BOTH, wrong)
        self.refuses(BadText, {}, read_standing, LOOP, "0;0")
        self.refuses(BadText, {}, read_standing, LOOP, "1-0")
        self.gives(((0, ()), (0, ())), read_standing, BOTH, "0;0")

    def test_40_trains_and_41(self):
        self.refuses(BadText, {}, read_standing, TEN, ";".join(["."] * 41))
        self.refuses(BadText, {}, read_standing, TEN, FORTY_TEXT + ";.")
        self.refuses(BadText, {}, read_standing, TEN, FORTY_TEXT + ";0-9")
        self.refuses(BadText, {}, read_standing, TEN, FORTY_TEXT[:-3] + "0-9")
        self.refuses(BadText, {}, read_standing, TEN, ";".join(["."] * 10000))

    def test_values(self):
        for value in any_values():
            if value == "":
                self.gives((), read_standing, BOTH, value)
            else:
                self.refuses(BadText, {}, read_standing, BOTH, value)
                if isinstance(value, str):
                    self.refuses(BadText, {}, read_standing, BOTH, "0;" + value)
                    self.refuses(BadText, {}, read_standing, BOTH, value + ";0")
        for value in (None, True, 0, (), [], {}, (None,), (UP,), ["0"], ("0",), {"0": "0"}):
            self.refuses(BadText, {}, read_standing, BOTH, value)

    def test_long_and_deep_texts(self):
        for deep in ("0-1-" * 500 + "0", "1-(0-" * 400, "1-(0|2-" * 300 + "1" + ")" * 300, "0" * 5000, "(" * 300 + "0" + ")" * 300, ";" * 20000):
            self.refuses(BadText, {}, read_standing, BOTH, deep)
            self.refuses(BadText, {}, read_standing, BOTH, "0;" + deep + ";2")
        self.gives((None, plain((0, 1) * 6 + (2,))[1][0]), read_standing, BOTH, ".;1-0-1-0-1-0-1-0-1-0-1-2")
        self.refuses(BadText, {}, read_standing, BOTH, ".;1-0-1-0-1-0-1-0-1-0-1-0-1-0")

    def test_text_is_that_of_what_was_read(self):
        texts = {}
        for net, standing in some_standings(81, 300):
            text = standing_text(standing)
            self.assertEqual(read_standing(net, text), standing)
            self.assertEqual(texts.setdefault(text, standing), standing)

    def test_signs_changed(self):
        chance = random.Random(82)
        for net, standing, text in STANDINGS:
            for wrong in signs_changed(chance, text, "0123459-(|) ;.\n>!x", 150):
                try:
                    read = read_standing(net, wrong)
                except BadText:
                    self.assertNotEqual(wrong, text)
                else:
                    self.assertIsNone(standing_error(net, read))
                    self.assertEqual(standing_text(read), wrong)
                    self.assertEqual(wrong == text, read == standing)

    def test_parts_turned_about(self):
        self.gives((DOWN, UP), read_standing, BOTH, "2-1-0;0-1-2")
        self.gives((UP, DOWN), read_standing, BOTH, "0-1-2;2-1-0")


class Runs(OfficeCase):
    def test_texts(self):
        for run, text in (
            ((), ""), (((0, None),), "0!"), (((39, 9),), "39>9"), (((39, None),), "39!"), (((0, 0),), "0>0"),
            (((1, None), (2, 1), (2, 2), (2, None)), "1! 2>1 2>2 2!"), (((0, 3), (12, None)), "0>3 12!"),
            (((7, None), (7, None), (0, 0), (0, 0)), "7! 7! 0>0 0>0"),
        ):
            self.gives(text, run_text, run)
            self.gives(run, read_run, text)

    def test_all_moves(self):
        for train, target in ALL_MOVES:
            text = str(train) + ("!" if target is None else ">" + str(target))
            self.assertEqual(run_text(((train, target),)), text)
            self.assertEqual(repr(read_run(text)), repr(((train, target),)))
        self.gives(tuple(ALL_MOVES), read_run, run_text(tuple(ALL_MOVES)))

    def test_one_beyond(self):
        for wrong in ("0>10", "40!", "40>0", "39>10", "0>3 40!", "100!", "0>99", "390>0", "0>-1", "-1>0", "-1!"):
            self.refuses(BadText, {}, read_run, wrong)

    def test_600_pairs_and_601(self):
        for count in (599, 600):
            run = tuple([ALL_MOVES[place % 440] for place in range(count)])
            self.gives(run, read_run, run_text(run))
            self.gives(" ".join([run_text((move,)) for move in run]), run_text, run)
        for count in (601, 1200):
            self.refuses(BadText, {}, read_run, " ".join(["0!"] * count))
        self.gives(((0, None),) * 600, read_run, " ".join(["0!"] * 600))

    def test_texts_of_no_run(self):
        for wrong in (
            " ", "0", ">", "!", "0>", ">0", "!0", "0!0", "0!!", "0>!", "0>1!", "0>>1", "0>1>2", "0 > 1", "0 >1", "0 !", "0!\n", "\n",
            "0! ", " 0!", "0!  1!", "0!,1!", "0!;1!", "0!1!", "0!\n1!", "0!\t1!", "00!", "01!", "0>01", "00>1", "0>00", "007>1", "+0!", "0>+1",
            "0=1", "0<1", "0-1", "(0, 1)", "0>None", "None", "None!", "0>x", "x!", "1_0!", "0>1.", "\u0661!", "0>\u0661", "0.!", "0!?",
            "0>1 0", "0>1 0! 0>", "0> 1", "1!2>1", "9" * 400 + "!", "0>" + "9" * 400, "!" * 20000, ">" * 20000, "0>1" * 6000,
        ):
            self.refuses(BadText, {}, read_run, wrong)

    def test_values(self):
        for value in any_values():
            if value == "":
                self.gives((), read_run, value)
            else:
                self.refuses(BadText, {}, read_run, value)
        for value in (None, False, 0, (), [], {}, ((0, 1),), ["0!"], ("0!",), {"0!": "0!"}):
            self.refuses(BadText, {}, read_run, value)

    def test_signs_changed(self):
        chance = random.Random(83)
        for _ in range(150):
            run = tuple(chance.choice(ALL_MOVES) for _ in range(chance.randint(0, 6)))
            text = run_text(run)
            for wrong in signs_changed(chance, text, "0123459 >!\nx-", 20):
                try:
                    read = read_run(wrong)
                except BadText:
                    self.assertNotEqual(wrong, text)
                else:
                    self.assertEqual(run_text(read), wrong)
                    self.assertEqual(wrong == text, read == run)


if __name__ == "__main__":
    unittest.main()

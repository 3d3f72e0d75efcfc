"""Ways as texts: [A3], [B5], and of [B6] what holds of them."""

import itertools
import random
import unittest

from support import BOTH, LOOP, TEN, OfficeCase, any_values, signs_changed, some_nets, some_ways

from singlegates.errors import BadText
from singlegates.ways import longest, plain, stops, way_error
from singlegates.waytexts import read_way, way_text

TEXTS = [
    (BOTH, (0, ((1, ((0, ()), (2, ()))),)), "0-1-(0|2)"),
    (BOTH, plain((0, 1, 2)), "0-1-2"),
    (BOTH, (1, ((0, ()), (2, ((1, ()),)))), "1-(0|2-1)"),
    (BOTH, (1, ((0, ((1, ()),)), (2, ()))), "1-(0-1|2)"),
    (BOTH, (1, ((0, ((1, ((0, ()), (2, ()))),)), (2, ()))), "1-(0-1-(0|2)|2)"),
    (BOTH, (1, ((0, ()), (2, ((1, ((0, ()), (2, ()))),)))), "1-(0|2-1-(0|2))"),
    (BOTH, plain((1,) + (0, 1) * 6), "1" + "-0-1" * 6),
    (LOOP, (2, ()), "2"),
    (LOOP, plain((2, 0, 1, 2)), "2-0-1-2"),
    (((1,), ()), (0, ()), "0"),
    (TEN, (9, ((0, ()), (4, ()), (8, ()))), "9-(0|4|8)"),
    (TEN, (5, ((0, ()), (4, ((0, ()), (3, ((2, ()),)))), (8, ()))), "5-(0|4-(0|3-2)|8)"),
    (TEN, (5, ((3, ((4, ()), (5, ()), (6, ()))),)), "5-3-(4|5|6)"),
]
FULL = "0-(" + "|".join([f"{one}-(" + "|".join([f"{two}-(4|5|6)" for two in (7, 8, 9)]) + ")" for one in (1, 2, 3)]) + ")"


def all_ways(net, station, length):
    """All ways of net from station whose texts have so many signs at most, as texts."""
    if length < 1:
        return []
    found = [f"{station}"]
    targets = [target for origin, target in net[1] if origin == station]
    for target in targets:
        found += [f"{station}-{text}" for text in all_ways(net, target, length - 2)]
    for many in (2, 3):
        for chosen in itertools.combinations(targets, many):
            parts = [all_ways(net, target, length - 4 - 2 * (many - 1)) for target in chosen]
            found += [f"{station}-(" + "|".join(texts) + ")" for texts in itertools.product(*parts)]
    return [text for text in found if len(text) <= length]


class WayTexts(OfficeCase):
    def test_text(self):
        for net, way, text in TEXTS:
            self.gives(text, way_text, way)
        self.gives("5", way_text, (5, ()))
        self.gives("3-3", way_text, plain((3, 3)))

    def test_read(self):
        for net, way, text in TEXTS:
            self.gives(way, read_way, net, text)
        self.assertEqual(way_text(read_way(TEN, FULL)), FULL)
        self.assertEqual(stops(read_way(TEN, FULL)), 40)

    def test_any_value_is_bad(self):
        for value in any_values() + [0, 1, (0, ()), plain((0, 1)), ("0",), ["0-1"], {"0": "0"}]:
            self.refuses(BadText, {}, read_way, BOTH, value)

    def test_no_way_of_this_net(self):
        for text in ("0-2", "0-0", "3", "9", "1-(0|1)", "0-1-(0|1|2)", "0-1-2-0", "1-(0-2|2)"):
            self.refuses(BadText, {}, read_way, BOTH, text)
        self.refuses(BadText, {}, read_way, LOOP, "1-0")
        self.refuses(BadText, {}, read_way, ((1,), ()), "1")

    def test_order(self):
        for text in ("1-(2|0)", "1-(0|0)", "1-(0|0-1)"):
            self.refuses(BadText, {}, read_way, BOTH, text)
        self.refuses(BadText, {}, read_way, TEN, "1-(2|4|3)")

    def test_choices(self):
        self.refuses(BadText, {}, read_way, TEN, "0-(1|2|3|4)")
        self.refuses(BadText, {}, read_way, TEN, "0-(1|2|3|4-(5|6|7|8))")
        self.gives((0, ((1, ()), (2, ()), (3, ()))), read_way, TEN, "0-(1|2|3)")

    def test_steps(self):
        text = "1" + "-0-1" * 6
        self.gives(plain((1,) + (0, 1) * 6), read_way, BOTH, text)
        self.refuses(BadText, {}, read_way, BOTH, "0-" + text)
        self.refuses(BadText, {}, read_way, BOTH, text + "-0")
        self.refuses(BadText, {}, read_way, BOTH, text + "-(0|2)")
        self.gives((9, ((0, ()), plain((1,) + (0, 1) * 5 + (0,)))), read_way, TEN, "9-(0|" + text[:-2] + ")")
        self.refuses(BadText, {}, read_way, TEN, "9-(0|" + text + ")")

    def test_pairs(self):
        for old, new in (("1-(7-(4", "1-(7-(4-1"), ("6))|2", "6-1))|2"), ("6)))", "6-1)))"), ("0-(", "9-0-(")):
            self.assertEqual(FULL.count(old), 1)
            self.refuses(BadText, {}, read_way, TEN, FULL.replace(old, new))

    def test_one_choice_in_brackets(self):
        for text in ("0-(1)", "(0)", "0-(1-2)", "0-((1))", "0-1-(2)", "0-1-(0|(2))", "1-((0|2))", "1-((0)|2)", "0-1-(0|2)()"):
            self.refuses(BadText, {}, read_way, BOTH, text)

    def test_wrong_signs(self):
        texts = ["", " ", "-", "0-", "-0", "0--1", "0 - 1", "0-1 ", " 0", "0\n", "0-1\n", "00", "01", "0-01", "0-10", "+0", "x", "0>1", "0,1", "0-x"]
        texts += ["0|1", "1-0|2", "1-(0|2", "1-0|2)", "1-(0|2))", "1-((0|2)", "1-(0||2)", "1-(|0|2)", "1-(0|2|)", "1(0|2)", "1-(0,2)", "1-()"]
        texts += ["1-(0|2)-1", "1-(0|2)2", "1-[0|2]", "1-(0-|2)", "1-(", "1-(0|", "1-(0|2)|", "(", ")", "|", "0(", "0)", ".", "0;1", "None"]
        for text in texts:
            self.refuses(BadText, {}, read_way, BOTH, text)

    def test_long_texts(self):
        for text in ("0-1-" * 500 + "0", "0" + "-1-0" * 5000, "1-(" * 300 + "0" + "|2)" * 300, "1-(0-" * 400, "(" * 500 + "0" + ")" * 500):
            self.refuses(BadText, {}, read_way, BOTH, text)
        for text in ("1-(" * 6000, "1-(0|2" * 3000, "9" * 20000, "0-" * 10000, "1-(0|" * 600 + "2" + ")" * 600, "1" + "-(0|2)" * 3000):
            self.refuses(BadText, {}, read_way, BOTH, text)

    def test_figures_of_other_scripts_are_bad(self):
        for text in ("\u0661", "\u00b2", "0-\u0661", "\uff10-1"):
            self.assertRaises(BadText, read_way, BOTH, text)

    def test_all_short_texts(self):
        right = {text for station in (0, 1, 2) for text in all_ways(BOTH, station, 7)}
        self.assertIn("1-(0|2)", right)
        self.assertNotIn("0-1-0-2", right)
        for length in range(6):
            for signs in itertools.product("0123-(|)", repeat=length):
                self.check("".join(signs), right)
        for signs in itertools.product("02(|)-", repeat=5):
            self.check("1-" + "".join(signs), right)

    def check(self, text, right):
        try:
            read = read_way(BOTH, text)
        except BadText:
            self.assertNotIn(text, right)
        else:
            self.assertIn(text, right)
            self.assertEqual(way_text(read), text)


class WhatHolds(OfficeCase):
    def test_there_and_back(self):
        chance = random.Random(41)
        for net in some_nets(42, 300):
            texts = {}
            for way in some_ways(chance, net, 8):
                text = way_text(way)
                self.assertEqual(read_way(net, text), way)
                self.assertEqual(texts.setdefault(text, way), way)

    def test_text_tells_the_pairs_in_order(self):
        chance = random.Random(43)
        for net in some_nets(44, 100):
            for way in some_ways(chance, net, 5):
                text = way_text(way)
                signs = repr(way).replace(" ", "")
                figures = [sign for sign in signs if sign.isdigit()]
                self.assertEqual([sign for sign in text if sign.isdigit()], figures)
                self.assertEqual(text.count("-") + text.count("|"), stops(way) - 1)
                self.assertLessEqual(longest(way), text.count("-"))

    def test_signs_changed(self):
        chance = random.Random(45)
        for net, way, text in TEXTS + [(TEN, None, FULL)]:
            for wrong in signs_changed(chance, text, "0123459-(|) \n>x", 150):
                try:
                    read = read_way(net, wrong)
                except BadText:
                    self.assertNotEqual(wrong, text)
                else:
                    self.assertIsNone(way_error(net, read))
                    self.assertEqual(way_text(read), wrong)
                    self.assertEqual(wrong == text, read == read_way(net, text))


if __name__ == "__main__":
    unittest.main()

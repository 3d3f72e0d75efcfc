"""Nets as texts: [A3], [A9], and of [A10] what holds of them."""

import itertools
import random
import unittest

from support import BOTH, LOOP, TEN, OfficeCase, any_values, signs_changed, small_nets, some_nets

from singlegates.errors import BadText
from singlegates.nettexts import net_text, read_net

TEXTS = [
    (BOTH, "2 1 2: 0=1 1=2"),
    (LOOP, "1 1 1: 0>1 1>2 2>0"),
    (((4,), ()), "4:"),
    (((1,) * 10, ()), "1 1 1 1 1 1 1 1 1 1:"),
    (((1, 1, 1), ((0, 2), (1, 0), (2, 0))), "1 1 1: 0=2 1>0"),
    (((1, 2, 3), ((0, 2), (1, 0), (1, 2), (2, 0), (2, 1))), "1 2 3: 0=2 1>0 1=2"),
    (((1, 1), ((1, 0),)), "1 1: 1>0"),
    (((1,) * 10, ((9, 0), (9, 8))), "1 1 1 1 1 1 1 1 1 1: 9>0 9>8"),
    (TEN, "4 4 4 4 4 4 4 4 4 4:" + "".join(f" {i}={j}" for i in range(10) for j in range(i + 1, 10))),
]


class NetTexts(OfficeCase):
    def test_text(self):
        for net, text in TEXTS:
            self.gives(text, net_text, net)

    def test_read(self):
        for net, text in TEXTS:
            self.gives(net, read_net, text)

    def test_any_value_is_bad(self):
        for value in any_values() + [BOTH, ("2 1 2: 0=1 1=2",), ["1:"], {"1:": "1:"}, 1]:
            self.refuses(BadText, {}, read_net, value)

    def test_tracks_are_bad(self):
        for head in ("", " ", "0", "5", "9", "10", "01", "1 ", " 1", "1  1", "1 0", "-1", "+1", "1,1", "1\n1", "x", "True", "1.", "1_1"):
            self.refuses(BadText, {}, read_net, head + ":")
        self.refuses(BadText, {}, read_net, " ".join(["1"] * 11) + ":")
        self.refuses(BadText, {}, read_net, "9" * 5000 + ":")
        self.refuses(BadText, {}, read_net, "1 " * 9999 + "1:")
        for text in ("1", "1 1", "1 1 0>1", "1 1; 0>1", "1 1 : 0>1", "1 1:: 0>1", "1:1 1: 0>1"):
            self.refuses(BadText, {}, read_net, text)

    def test_lines_are_bad(self):
        rests = [" ", "0>1", "  0>1", " 0>1 ", " 0>1\n", "\n", " 0", " 0>", " >1", " 01", " 0-1", " 0<1", " 0 > 1", " 0>>1", " 00>1", " 0>01"]
        rests += [" 0>2", " 2>0", " 0=2", " 0>0", " 0=0", " 0>1 0>1", " 0=1 0=1", " 0>1 1>0", " 1=0", " 1>0 0>1", " 0=1 1>0", " 0>1 0=1"]
        rests += [" 0>10", " 0>-1", " 0>+1", " 0>1 1", " 0>1,1>0", " 0>1: 1>0", " 0>1" * 4000, " 0>" + "1" * 19000, " x>y", " 0>1  1>0"]
        for rest in rests:
            self.refuses(BadText, {}, read_net, "1 1:" + rest)
        self.refuses(BadText, {}, read_net, "1 1 1: 1>2 0>1")
        self.refuses(BadText, {}, read_net, "1 1 1: 0>2 0=1")
        self.refuses(BadText, {}, read_net, "1 1 1: 1>0 0=2")
        self.gives(((1, 1, 1), ((0, 1), (0, 2), (1, 0))), read_net, "1 1 1: 0=1 0>2")

    def test_figures_of_other_scripts_are_bad(self):
        for text in ("\u0661:", "\u00b2:", "1 1: 0>\u0661", "1 1: \u0660>1", "1 1:\u00a00>1"):
            self.assertRaises(BadText, read_net, text)

    def test_all_heads(self):
        right = {" ".join(map(str, tracks)) + ":" for size in (1, 2, 3) for tracks in itertools.product((1, 2, 3, 4), repeat=size)}
        for length in range(1, 7):
            for signs in itertools.product("045 :", repeat=length):
                self.check("".join(signs), right)

    def test_all_lines(self):
        right = {net_text(net) for net in small_nets() if len(net[0]) == 2}
        self.assertEqual(right, {"1 1:", "1 1: 0>1", "1 1: 1>0", "1 1: 0=1"})
        for length in range(6):
            for signs in itertools.product("01 >=2", repeat=length):
                self.check("1 1:" + "".join(signs), right)

    def check(self, text, right):
        try:
            read = read_net(text)
        except BadText:
            self.assertNotIn(text, right)
        else:
            self.assertIn(text, right)
            self.assertEqual(net_text(read), text)


class WhatHolds(OfficeCase):
    def test_there_and_back(self):
        texts = {}
        for net in list(small_nets()) + list(some_nets(31, 500)):
            text = net_text(net)
            self.assertEqual(read_net(text), net)
            self.assertEqual(texts.setdefault(text, net), net)
            self.assertEqual(text.split(":")[0], " ".join(map(str, net[0])))
            lines = []
            for word in text.split(" ")[len(net[0]):]:
                i, j = int(word[0]), int(word[2])
                lines += [(i, j), (j, i)] if word[1] == "=" else [(i, j)]
            self.assertEqual(tuple(sorted(lines)), net[1])

    def test_signs_changed(self):
        chance = random.Random(32)
        nets = [net for net, _ in TEXTS] + list(some_nets(33, 60))
        texts = {net_text(net): net for net in nets}
        for text in list(texts):
            for wrong in signs_changed(chance, text, "0123459 :>=\nx-", 60):
                try:
                    read = read_net(wrong)
                except BadText:
                    self.assertNotIn(wrong, texts)
                else:
                    self.assertEqual(net_text(read), wrong)
                    self.assertEqual(texts.setdefault(wrong, read), read)


if __name__ == "__main__":
    unittest.main()

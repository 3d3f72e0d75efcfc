"""Days and logs as texts: [A3], [K5]."""

import random
import unittest

from support import LOOP, TEN, OfficeCase, any_values, counted, leaves, signs_changed, some_days

from singlegates.days import day_error, played
from singlegates.daytexts import day_text, log_text, read_day, read_log
from singlegates.errors import BadText
from singlegates.makers import line_net
from singlegates.nettexts import net_text
from singlegates.ways import longest, plain
from singlegates.waytexts import way_text

DUO, EAST, WEST = line_net((1, 2, 1)), plain((0, 1, 2)), plain((2, 1, 0))
MEET = (DUO, (5, 5, 7, 7), ((EAST, 0, (0, 2, 0), 0), (WEST, 0, (0, 2, 0), 1)))
MEET_TEXT = "1 2 1: 0=1 1=2\nminutes 5 5 7 7\n0-1-2 from 0 stays 0,2,0 rank 0\n2-1-0 from 0 stays 0,2,0 rank 1"
ONE = ((1,), ())
FORTY_WAY = counted(40)
DAYS = [
    (MEET, MEET_TEXT),
    ((((3,), ()), (), ()), "3:\nminutes"),
    ((ONE, (), (((0, ()), 0, (0,), 0),)), "1:\nminutes\n0 from 0 stays 0 rank 0"),
    ((ONE, (), (((0, ()), 600, (60,), 40),) * 40), "1:\nminutes" + "\n0 from 600 stays 60 rank 40" * 40),
    ((LOOP, (1, 10, 60), ()), "1 1 1: 0>1 1>2 2>0\nminutes 1 10 60"),
    (
        (DUO, (1, 2, 3, 4), (((1, ((0, ()), (2, ((1, ()),)))), 12, (0, 10, 9), 7),)),
        "1 2 1: 0=1 1=2\nminutes 1 2 3 4\n1-(0|2-1) from 12 stays 0,10,9 rank 7",
    ),
    (
        (TEN, (60,) * 90, ((plain((0, 1) * 6 + (0,)), 599, (60,) * 13, 39), (FORTY_WAY, 1, (0,) * (longest(FORTY_WAY) + 1), 0))),
        net_text(TEN) + "\nminutes" + " 60" * 90 + "\n0-1-0-1-0-1-0-1-0-1-0-1-0 from 599 stays 60" + ",60" * 12 + " rank 39\n" + way_text(FORTY_WAY)
        + " from 1 stays 0" + ",0" * longest(FORTY_WAY) + " rank 0",
    ),
    ((((1, 1, 1), ((0, 2), (1, 0), (2, 0))), (3, 2, 1), ()), "1 1 1: 0=2 1>0\nminutes 3 2 1"),
    ((line_net((2, 1, 2)), (9,) * 4, (((1, leaves(0, 2)), 0, (5, 6), 0),)), "2 1 2: 0=1 1=2\nminutes 9 9 9 9\n1-(0|2) from 0 stays 5,6 rank 0"),
]
LOGS = [
    ((), ""),
    (((0, 0, "in", 0), (0, 0, "go", 1), (0, 1, "in", 2)), "0 0 in 0\n0 0 go 1\n0 1 in 2"),
    (((14, 1, "out", 0),), "14 1 out 0"),
    (((999999, 39, "at", 9), (0, 0, "in", 0), (10, 20, "go", 3)), "999999 39 at 9\n0 0 in 0\n10 20 go 3"),
    (((0, 0, "in", 0),) * 900, "\n".join(["0 0 in 0"] * 900)),
]


class Days(OfficeCase):
    def test_texts(self):
        for day, text in DAYS:
            self.assertIsNone(day_error(day))
            self.gives(text, day_text, day)
            self.gives(day, read_day, text)

    def test_texts_of_no_day(self):
        for wrong in (
            "", "\n", "1:", "1:\n", "1:\nminute", "1:\nminutes ", "1:\nminutes\n", "\n1:\nminutes", "1:\n\nminutes", "1:\nMinutes", "1:\nminutes 5", "1: \nminutes", "1 \nminutes",
            "1 1: 0>1\nminutes", "1 1: 0>1\nminutes 0", "1 1: 0>1\nminutes 61", "1 1: 0>1\nminutes 05", "1 1: 0>1\nminutes 5 5", "1 1: 0>1\nminutes  5", "1 1: 0>1\nminutes5",
            "1 1: 0>1\nminutes 5 ", "1 1: 0>1\nminutes -5", "1 1: 0>1\nminutes +5", "1 1: 0>1\nminutes 5,5", "1 1: 1>0 0>1\nminutes 5 5", "5:\nminutes", "0:\nminutes", "x\nminutes",
            "minutes\n1:", "1:\nminutes\n0", "1 1: 0>1\r\nminutes 5", "1:\nminutes\n\n0 from 0 stays 0 rank 0", "1:\nminutes\n0 from 0 stays 0 rank 0\n", "1:",
            "1 1: 0>1\n5\n0-1 from 0 stays 0,0 rank 0", "1:;minutes", "1: minutes",
        ):
            self.refuses(BadText, {}, read_day, wrong)

    def test_lines_of_no_train(self):
        right = "0-1 from 10 stays 20,30 rank 4"
        head = "1 1: 0>1\nminutes 5"
        self.gives((((1, 1), ((0, 1),)), (5,), ((plain((0, 1)), 10, (20, 30), 4),)), read_day, head + "\n" + right)
        for wrong in (
            "", " " + right, right + " ", right.replace(" from", "  from"), right.replace("from", "From"), right.replace("from ", ""), right.replace("stays", "stay"),
            right.replace("rank", "ranks"), right[:-2], right[:-1], right.replace("rank 4", "rank 04"), right.replace("rank 4", "rank 41"), right.replace("rank 4", "rank -1"),
            right.replace("rank 4", "rank x"), right.replace("10", "010"), right.replace("10", "601"), right.replace("10", "1000"), right.replace("10", ""), right.replace("10", "1 0"),
            right.replace("20,30", "20"), right.replace("20,30", "20,30,0"), right.replace("20,30", "20, 30"), right.replace("20,30", "20 30"), right.replace("20,30", "20;30"),
            right.replace("20,30", "20,30,"), right.replace("20,30", ",20,30"), right.replace("20,30", "20,,30"), right.replace("20,30", "61,0"), right.replace("20,30", "0,61"),
            right.replace("20,30", "00,30"), right.replace("20,30", "20,03"), right.replace("20,30", ""), right.replace("0-1", "1-0"), right.replace("0-1", "0"), right.replace("0-1", "0-(1)"),
            right.replace("0-1", "0-2"), right.replace("0-1", "2"), right.replace("0-1", ""), right.replace("0-1", "."), "0-1 stays 20,30 from 10 rank 4", "0-1 from 10 rank 4 stays 20,30",
            "from 10 stays 20,30 rank 4", "from 0-1 10 stays 20,30 rank 4", right + " 0", "0-1 from 10 stays 20,30 rank 4;0-1 from 10 stays 20,30 rank 4", right.replace("4", "\u0664"),
        ):
            self.refuses(BadText, {}, read_day, head + "\n" + wrong)
            self.refuses(BadText, {}, read_day, head + "\n" + right + "\n" + wrong)

    def test_40_trains_and_41(self):
        line = "\n0 from 0 stays 0 rank 0"
        self.gives((ONE, (), (((0, ()), 0, (0,), 0),) * 40), read_day, "1:\nminutes" + line * 40)
        self.refuses(BadText, {}, read_day, "1:\nminutes" + line * 41)
        self.refuses(BadText, {}, read_day, "1:\nminutes" + line * 800)

    def test_values(self):
        for value in any_values() + [None, MEET, [MEET_TEXT], (MEET_TEXT,), {MEET_TEXT: 0}, 0, True]:
            self.refuses(BadText, {}, read_day, value)
            if isinstance(value, str):
                self.refuses(BadText, {}, read_day, MEET_TEXT + value if value else MEET_TEXT[1:])
                self.refuses(BadText, {}, read_day, "1:\nminutes\n" + value)
        for way in ("0-" * 1000 + "0", "0-(" * 700 + "0", "0-1" * 5000, "(" * 5000):
            self.refuses(BadText, {}, read_day, f"1 1: 0=1\nminutes 1 1\n{way} from 0 stays 0 rank 0")
        for number in ("9" * 5000, "0" * 5000, "1" * 4500):
            for text in (f"1 1: 0>1\nminutes {number}", f"1:\nminutes\n0 from {number} stays 0 rank 0", f"1:\nminutes\n0 from 0 stays {number} rank 0", f"1:\nminutes\n0 from 0 stays 0 rank {number}"):
                self.refuses(BadText, {}, read_day, text)

    def test_all_kinds_of_days(self):
        texts = {}
        for day, _ in some_days(431, 150, 60):
            text = day_text(day)
            self.assertEqual(read_day(text), day)
            self.assertEqual(texts.setdefault(text, day), day)

    def test_signs_left_out_put_in_and_exchanged(self):
        chance = random.Random(432)
        taken = 0
        for day, text in DAYS[:6] + [(day, day_text(day)) for day, _ in some_days(433, 20, 60)]:
            for wrong in signs_changed(chance, text, " \n,:->|()=0123456789mfsr", 60):
                try:
                    found = read_day(wrong)
                except BadText:
                    continue
                taken += 1
                self.assertIsNone(day_error(found))
                self.assertEqual(day_text(found), wrong)
                self.assertEqual(found == day, wrong == text)
        self.assertGreater(taken, 20)


class Logs(OfficeCase):
    def test_texts(self):
        for log, text in LOGS:
            self.gives(text, log_text, log)
            self.gives(log, read_log, text)

    def test_texts_of_no_log(self):
        for wrong in (
            "0 0 in 0\n", "\n0 0 in 0", "\n", "0 0 in 0\n\n0 0 in 0", "1000000 0 in 0", "999999 40 in 0", "0 0 in 10", "0 40 in 0", "0 0 on 0", "0 0 In 0", "0 0 0 in", "0 in 0 0", "in 0 0 0",
            "00 0 in 0", "0 00 in 0", "0 0 in 00", "01 0 in 0", "0 01 in 0", "0 0 in 01", "-1 0 in 0", "0 -1 in 0", "0 0 in -1", "+1 0 in 0", "0 0 in", "0 0 in 0 0", " 0 0 in 0", "0 0 in 0 ",
            "0  0 in 0", "0 0  in 0", "0 0 in  0", "0,0,in,0", "0 0 in 0;0 0 in 0", "0 0 in 0 0 0 in 0", " ", "0", "in", "0 0 gone 0", "0 0  0", "0 0 in x", "x 0 in 0", "0 x in 0",
            "0 0 in 0\r\n0 0 in 0", "0 0 'in' 0", "0 0 in None", "0 None in 0", "\u0660 0 in 0", "0 0 in \u00b2", "1e3 0 in 0", "0x1 0 in 0", "1_0 0 in 0",
        ):
            self.refuses(BadText, {}, read_log, wrong)

    def test_all_rows(self):
        for minute in (0, 1, 9, 10, 99, 100, 999998, 999999):
            for train in range(40):
                row = (minute, train, ("in", "go", "at", "out")[train % 4], train % 10)
                self.assertEqual(log_text((row,)), f"{minute} {train} {row[2]} {row[3]}")
                self.assertEqual(read_log(log_text((row, row))), (row, row))

    def test_values(self):
        for value in any_values() + [None, LOGS[1][0], [LOGS[1][1]], (LOGS[1][1],), 0, True, {}]:
            if value == "":
                self.gives((), read_log, value)
            else:
                self.refuses(BadText, {}, read_log, value)
        for number in ("9" * 5000, "0" * 5000):
            for text in (f"{number} 0 in 0", f"0 {number} in 0", f"0 0 in {number}", f"0 0 {number} 0"):
                self.refuses(BadText, {}, read_log, text)

    def test_logs_of_days(self):
        for day, delays in some_days(434, 60, 60):
            log = played(day, delays)
            self.gives(log, read_log, log_text(log))

    def test_signs_left_out_put_in_and_exchanged(self):
        chance = random.Random(435)
        for log, text in LOGS[1:4]:
            for wrong in signs_changed(chance, text, " \n0123456789ingoat", 300):
                try:
                    found = read_log(wrong)
                except BadText:
                    continue
                self.assertEqual(log_text(found), wrong)
                self.assertEqual(found == log, wrong == text)


if __name__ == "__main__":
    unittest.main()

"""The interface: each name in the file under which it is listed, with its arguments under their names."""

import importlib
import inspect
import unittest

from support import ARGUMENTS

LANDED = {
    "nets": ("net_error", "nexts", "befores", "turned", "wider", "laid", "shut"),
    "makers": ("line_net", "ring_net", "star_net", "eight_net"),
    "nettexts": ("net_text", "read_net"),
    "ways": (
        "way_error", "plain", "is_plain", "choice", "stops", "longest", "shortest", "ends", "visits", "walks",
    ),
    "waytexts": ("way_text", "read_way"),
    "standings": ("standing_error", "trains_at", "free_tracks", "wants", "steps_left", "all_gone", "without"),
    "moving": ("move_error", "moved", "moves", "run_error", "led"),
    "standingtexts": ("standing_text", "read_standing", "run_text", "read_run"),
    "lots": ("is_lot", "closure", "greatest_lot", "least_lots", "stuck", "lifted", "brought"),
    "rounds": ("is_round", "lightest_round", "fewest_stuck", "parts", "reach"),
    "gates": ("gates", "apart", "gate_paper", "gate_error", "ungated", "is_gated", "widened"),
    "traps": ("trap", "trap_error", "late_trap"),
    "offices": ("lets", "let_moves", "let_into", "first_let"),
    "homes": ("home_row", "home_paper", "paper_error", "savable"),
    "habits": ("left_out", "lesser_net", "lesser_way", "home_by_habit"),
    "changes": ("let_in", "rewayed", "line_shut", "track_taken", "home_past"),
    "days": ("day_error", "played", "log_error"),
    "daytexts": ("day_text", "read_day", "log_text", "read_log"),
    "desks": ("desk_behind",),
}


class Interface(unittest.TestCase):
    def test_functions(self):
        for module, names in LANDED.items():
            for name in names:
                function = vars(importlib.import_module("singlegates." + module))[name]
                self.assertTrue(inspect.isfunction(function), name)
                self.assertEqual((function.__module__, function.__name__), ("singlegates." + module, name))

    def test_arguments(self):
        self.assertEqual(sorted(ARGUMENTS), sorted([name for names in LANDED.values() for name in names]))
        for module, names in LANDED.items():
            for name in names:
                parameters = inspect.signature(vars(importlib.import_module("singlegates." + module))[name]).parameters
                self.assertEqual(tuple(parameters), ARGUMENTS[name], name)
                for parameter in parameters.values():
                    self.assertEqual(parameter.kind, parameter.POSITIONAL_OR_KEYWORD, name)


if __name__ == "__main__":
    unittest.main()

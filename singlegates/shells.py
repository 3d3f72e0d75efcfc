"""The shell: a desk that is told what to do in lines of text, and answers in such."""

from singlegates.desks import Desk
from singlegates.errors import BadNet, BadText, Full, Needed, OfficeError, Refused, Stuck, Ungated
from singlegates.homes import home_row
from singlegates.kinds import number_of
from singlegates.nettexts import net_text, read_net
from singlegates.offices import let_moves, rank_in_order
from singlegates.standingtexts import read_standing, run_text, standing_text
from singlegates.waytexts import read_way


class Shell:
    """A desk, or none at first, and what is asked of it."""

    def __init__(self):
        self._desk = None

    def say(self, line):
        """Return the answer to line."""
        if not isinstance(line, str):
            return "no desk" if self._desk is None else "what?"
        if self._desk is None and not line.startswith("net "):
            return "no desk"
        try:
            return self._answer(line)
        except BadText:
            return "what?"
        except (Refused, Stuck) as jam:
            return "no: lot " + _numbers_text(jam.lot)
        except BadNet as bad:
            return "no: gates " + _numbers_text(bad.error[1])
        except Ungated as bare:
            return "no: gates " + _numbers_text((bare.station,))
        except Needed as needed:
            return "no: needed " + _numbers_text(needed.trains)
        except Full as full:
            return "no: full " + _numbers_text((full.station,))
        except OfficeError:
            return "no"

    def _answer(self, line):
        """Return the answer to line if nothing is raised."""
        if line == "show":
            return f"{net_text(self._desk.net())} / {standing_text(self._desk.standing())}"
        if line == "let":
            return run_text(let_moves(self._desk.net(), self._desk.standing())) or "-"
        if line == "home":
            standing = self._desk.standing()
            return run_text(home_row(self._desk.net(), standing, rank_in_order(standing))) or "-"
        self._do(line)
        return f"{self._desk.version()} edits"

    def _do(self, line):
        """Change the desk as line tells."""
        if line == "undo":
            self._desk.undo()
        elif line == "redo":
            self._desk.redo()
        elif line.startswith("net "):
            self._desk = Desk(read_net(line[4:]), ())
        elif line.startswith("trains "):
            net = self._desk.net()
            self._desk = Desk(net, read_standing(net, line[7:]))
        else:
            self._desk.make(_edit_of(self._desk.net(), line.split(" ")))


def _edit_of(net, words):
    """Return the edit that the words of a line tell."""
    kind = (words[0], len(words))
    if kind == ("move", 3):
        return ("move", _number(words[1]), None if words[2] == "out" else _number(words[2]))
    if kind == ("in", 2):
        return ("in", read_way(net, words[1]))
    if kind == ("way", 3):
        return ("way", _number(words[1]), read_way(net, words[2]))
    if kind == ("shut", 3):
        return ("shut", _number(words[1]), _number(words[2]))
    if kind in (("take", 2), ("lay", 2)):
        return (words[0], _number(words[1]))
    raise BadText()


def _number(text):
    """Return the number of at most two figures that text tells."""
    number = number_of(text, 99)
    if number is None:
        raise BadText()
    return number


def _numbers_text(numbers):
    return " ".join([str(number) for number in numbers])

"""The errors that the package raises, one class for each kind of failure."""


class OfficeError(ValueError):
    """What all errors of this package are."""


class Unfit(OfficeError):
    """An argument is none with which this can be done."""


class BadNet(OfficeError):
    """A value is no net, or none that is asked for; error tells why."""

    def __init__(self, error):
        self.error = error


class BadWay(OfficeError):
    """A value is no way of the net; error tells why."""

    def __init__(self, error):
        self.error = error


class BadStanding(OfficeError):
    """A value is no standing for the net; error tells why."""

    def __init__(self, error):
        self.error = error


class BadMove(OfficeError):
    """A value is no move that can be made; error tells why."""

    def __init__(self, error):
        self.error = error


class BadRun(OfficeError):
    """A value is no run from the standing; error tells why."""

    def __init__(self, error):
        self.error = error


class BadDay(OfficeError):
    """A value is no day; error tells why."""

    def __init__(self, error):
        self.error = error


class BadText(OfficeError):
    """A value is the text of nothing that is asked for."""


class Stuck(OfficeError):
    """The trains of lot are stuck."""

    def __init__(self, lot):
        self.lot = lot


class Ungated(OfficeError):
    """The station has one track, lies on a round and has no gate."""

    def __init__(self, station):
        self.station = station


class Refused(OfficeError):
    """What was asked would bring lot."""

    def __init__(self, lot):
        self.lot = lot


class Full(OfficeError):
    """The station has no free track."""

    def __init__(self, station):
        self.station = station


class Needed(OfficeError):
    """The trains would be left without a way."""

    def __init__(self, trains):
        self.trains = trains


class TooMany(OfficeError):
    """There are more than limit."""

    def __init__(self, limit):
        self.limit = limit


class TooManyEdits(OfficeError):
    """There are limit edits already."""

    def __init__(self, limit):
        self.limit = limit


class NothingToUndo(OfficeError):
    """No edit is in force."""


class NothingToRedo(OfficeError):
    """No edit was undone that could be made again."""


class NoVersion(OfficeError):
    """What was given is no version."""

    def __init__(self, given):
        self.given = given

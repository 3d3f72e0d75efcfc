"""The rails of a day: where its trains are, which tracks they hold, and when each may do its next thing."""

from singlegates.ways import choice

# What the rows of a log tell: a train comes in, goes on, arrives, leaves.
WORDS = ("in", "go", "at", "out")

# What a train is: it has not come in yet, stands, is under way to the next station, has left.
OUT = "out"
STANDS = "stands"
GOES = "goes"
GONE = "gone"


class Rails:
    """The trains of a day while it goes, at first all out; delays are () or those of the day."""

    def __init__(self, day, delays):
        self._net, minutes, trains = day
        self._minutes = {line: minutes[spot] for spot, line in enumerate(self._net[1])}
        # Of each train its entry and its stays, with delays: so long it waits, ahead of coming in and at each depth.
        self._waits = [_waits_of(told, delays[train] if delays else ()) for train, told in enumerate(trains)]
        self._depths = [0] * len(trains)
        # The station that a train under way has left; it still holds a track there.
        self._origins = [None] * len(trains)
        self.phases = [OUT] * len(trains)
        # What is left of each way, from the train's station on, or from the one to which it goes.
        self.ways = [told[0] for told in trains]
        # The minute from which on a train may do its next thing; if it is under way it arrives in just this minute.
        self.ready = [waits[0] for waits in self._waits]

    def aimed(self):
        """Return the aimed standing."""
        are_on = [phase in (STANDS, GOES) for phase in self.phases]
        return tuple([way if are_on[train] else None for train, way in enumerate(self.ways)])

    def targets(self, train):
        """Return the stations that train wants."""
        return [branch[0] for branch in self.ways[train][1]]

    def is_open(self, station):
        """Return whether station has more tracks than are held there."""
        aimed_at = [way[0] for way in self.aimed() if way is not None]
        return aimed_at.count(station) + self._origins.count(station) < self._net[0][station]

    def due(self, minute):
        """Return the trains under way that have to arrive in this minute, or had to ahead of it."""
        return [train for train, phase in enumerate(self.phases) if phase == GOES and self.ready[train] <= minute]

    def next_minute(self, minute):
        """Return the first minute behind this one in which some train may do its next thing, None if there is none."""
        return min([ready for ready in self.ready if ready > minute], default=None)

    def are_gone(self):
        """Return whether all trains have left."""
        return all([phase == GONE for phase in self.phases])

    def do(self, row):
        """Let a train do what a row of a log tells; it can."""
        minute, train, word, station = row
        if word == "out":
            self.phases[train] = GONE
        elif word == "go":
            self._set_out(minute, train, station)
        else:
            self._stand(minute, train)

    def _set_out(self, minute, train, station):
        origin = self.ways[train][0]
        self.phases[train] = GOES
        self._origins[train] = origin
        self.ways[train] = choice(self.ways[train], station)
        self.ready[train] = minute + self._minutes[(origin, station)]

    def _stand(self, minute, train):
        if self.phases[train] == GOES:
            self._origins[train] = None
            self._depths[train] += 1
        self.phases[train] = STANDS
        self.ready[train] = minute + self._waits[train][self._depths[train] + 1]


def _waits_of(told, late):
    """Return the entry and the stays of a train, each with what it is late if late tells that."""
    _, entry, stays, _ = told
    waits = (entry,) + stays
    if late == ():
        return waits
    return tuple([wait + more for wait, more in zip(waits, late)])

"""What the tests share: calls that are looked after, values of all kinds, the examples of the document."""

import copy
import functools
import itertools
import random
import unittest

# The names of the arguments as the document tells them, written out so that a renamed parameter fails.
ARGUMENTS = {
    "net_error": ("value",),
    "nexts": ("net", "station"),
    "befores": ("net", "station"),
    "turned": ("net",),
    "wider": ("net", "station"),
    "laid": ("net", "origin", "target"),
    "shut": ("net", "origin", "target"),
    "line_net": ("tracks",),
    "ring_net": ("tracks",),
    "star_net": ("tracks",),
    "eight_net": ("tracks", "many"),
    "net_text": ("net",),
    "read_net": ("value",),
    "way_error": ("net", "value"),
    "plain": ("stations",),
    "is_plain": ("way",),
    "choice": ("way", "station"),
    "stops": ("way",),
    "longest": ("way",),
    "shortest": ("way",),
    "ends": ("way",),
    "visits": ("way",),
    "walks": ("way",),
    "way_text": ("way",),
    "read_way": ("net", "value"),
    "standing_error": ("net", "value"),
    "trains_at": ("standing", "station"),
    "free_tracks": ("net", "standing", "station"),
    "wants": ("standing", "train"),
    "steps_left": ("standing",),
    "all_gone": ("standing",),
    "without": ("standing", "trains"),
    "move_error": ("net", "standing", "value"),
    "moved": ("net", "standing", "move"),
    "moves": ("net", "standing"),
    "run_error": ("net", "standing", "value"),
    "led": ("net", "standing", "run"),
    "standing_text": ("standing",),
    "read_standing": ("net", "value"),
    "run_text": ("run",),
    "read_run": ("value",),
    "is_lot": ("net", "standing", "value"),
    "closure": ("net", "standing", "station"),
    "greatest_lot": ("net", "standing"),
    "least_lots": ("net", "standing"),
    "stuck": ("net", "standing"),
    "lifted": ("net", "standing"),
    "brought": ("net", "standing", "move"),
    "is_round": ("net", "value"),
    "lightest_round": ("net",),
    "fewest_stuck": ("net",),
    "parts": ("net",),
    "reach": ("net", "station"),
    "gates": ("net", "station"),
    "apart": ("net", "station"),
    "gate_paper": ("net", "station"),
    "gate_error": ("net", "station", "value"),
    "ungated": ("net",),
    "is_gated": ("net",),
    "widened": ("net",),
    "trap": ("net",),
    "trap_error": ("net", "value"),
    "late_trap": ("many",),
    "lets": ("net", "standing", "move"),
    "let_moves": ("net", "standing"),
    "let_into": ("net", "standing", "station"),
    "first_let": ("net", "standing", "rank"),
    "home_row": ("net", "standing", "rank"),
    "home_paper": ("net", "standing"),
    "paper_error": ("net", "standing", "value"),
    "savable": ("net", "standing"),
    "left_out": ("net",),
    "lesser_net": ("net",),
    "lesser_way": ("net", "way"),
    "home_by_habit": ("net", "standing"),
    "let_in": ("net", "standing", "way"),
    "rewayed": ("net", "standing", "train", "way"),
    "line_shut": ("net", "standing", "origin", "target"),
    "track_taken": ("net", "standing", "station"),
    "home_past": ("net", "standing", "held"),
    "day_error": ("value",),
    "played": ("day", "delays"),
    "log_error": ("day", "value"),
    "day_text": ("day",),
    "read_day": ("value",),
    "log_text": ("log",),
    "read_log": ("value",),
    "desk_behind": ("net", "standing", "log"),
}

BOTH = ((2, 1, 2), ((0, 1), (1, 0), (1, 2), (2, 1)))
LOOP = ((1, 1, 1), ((0, 1), (1, 2), (2, 0)))
TEN = ((4,) * 10, tuple((i, j) for i in range(10) for j in range(10) if i != j))


class OfficeCase(unittest.TestCase):
    """Looks after each call: by place and by name, again, with what is handed in left as it was."""

    def ways_to_call(self, function, arguments):
        names = ARGUMENTS[function.__name__]
        self.assertEqual(len(names), len(arguments))
        named = dict(zip(names, arguments))
        first, rest = arguments[:1], dict(list(named.items())[1:])
        backwards = dict(reversed(list(named.items())))
        return ((arguments, {}), ((), named), (first, rest), ((), backwards), (arguments, {}))

    def got(self, function, *arguments):
        """What the call returns, the same each time; where the document says "any" it is judged by the test."""
        results = []
        for place, named in self.ways_to_call(function, arguments):
            kept, before = copy.deepcopy(arguments), repr(arguments)
            results.append(function(*place, **named))
            self.assertEqual(repr(results[-1]), repr(results[0]), (function.__name__, arguments))
            self.assertEqual(results[-1], results[0])
            self.assertEqual(repr(arguments), before)
            self.assertEqual(arguments, kept)
        return results[0]

    def gives(self, expected, function, *arguments):
        """The call returns just this; repr tells True from 1, and a tuple from a list."""
        result = self.got(function, *arguments)
        self.assertEqual(repr(result), repr(expected), (function.__name__, arguments))
        self.assertEqual(result, expected)

    def refuses(self, error, fields, function, *arguments):
        """The call raises just this class, with these fields and no others."""
        for place, named in self.ways_to_call(function, arguments):
            kept, before = copy.deepcopy(arguments), repr(arguments)
            with self.assertRaises(error, msg=(function.__name__, arguments)) as caught:
                function(*place, **named)
            self.assertEqual(caught.exception.__class__.__name__, error.__name__)
            self.assertEqual(repr(vars(caught.exception)), repr(fields))
            self.assertEqual(repr(arguments), before)
            self.assertEqual(arguments, kept)


def nested(wrap, depth):
    value = wrap(0)
    for _ in range(depth - 1):
        value = wrap(value)
    return value


def any_values():
    """Values of all the kinds that may be handed in as any value; no net, no way and no text is among them."""
    return [
        None, True, False, 11, -1, 10 ** 400 - 1, 1 - 10 ** 400,
        "", " ", "\n", "form", "(0, ())", "~" * 20000, "9" * 400 + "x", "(" * 500, "0-(" * 700 + "0", "0-" * 1000, "\n" * 20000,
        (), [], {}, (0,), [0], {0: 0}, (None, None), (0, 0, 0), [(0, ())], [(1,), ()], {"station": 0}, {(0, 1): [1], None: ()},
        ((), (), ()), ("0", "1"), (("1",), [()]), ((1,), None), ((1,), {}), ([1], ()), ({1: 1}, ()), ("1", ()), (None, ()),
        nested(lambda value: (value,), 20), nested(lambda value: [value], 20), nested(lambda value: {0: value}, 20),
        nested(lambda value: (value, [value]), 8),
        (0,) * 3999, [0] * 4000, {number: number for number in range(2000)}, ("a" * 19, "b") * 2000,
    ]


def integers_not():
    """Values that are no integers, though Python takes some of them for some."""
    return [None, True, False, "0", "1", "", (), (1,), [1], {}, {1: 1}, ((0, 1),)]


def small_nets():
    """All nets of one, two and three stations with one track each."""
    for many in (1, 2, 3):
        pairs = [(i, j) for i in range(many) for j in range(many) if i != j]
        for chosen in range(2 ** len(pairs)):
            yield ((1,) * many, tuple(pair for place, pair in enumerate(pairs) if chosen >> place & 1))


def some_nets(seed, many):
    """As many nets of all sizes, the same ones for the same seed."""
    chance = random.Random(seed)
    for _ in range(many):
        size = chance.randint(1, 10)
        share = chance.choice((0.1, 0.3, 0.6, 1))
        tracks = tuple(chance.randint(1, 4) for _ in range(size))
        yield tracks, tuple((i, j) for i in range(size) for j in range(size) if i != j and chance.random() < share)


def some_way(chance, net, station, steps, room):
    """A way from station with at most so many steps, and how many pairs it leaves of those that there is room for."""
    room -= 1
    further = []
    targets = [target for origin, target in net[1] if origin == station]
    most = min(len(targets), chance.choice((1, 1, 1, 2, 3)), room)
    if steps and most > 0 and chance.random() < 0.9:
        for target in sorted(chance.sample(targets, most)):
            if room > 0:
                branch, room = some_way(chance, net, target, chance.choice((steps - 1, max(0, steps - 4))), room)
                further.append(branch)
    return (station, tuple(further)), room


def some_ways(chance, net, many):
    """As many ways of net."""
    return [some_way(chance, net, chance.randrange(len(net[0])), chance.randint(0, 12), 40)[0] for _ in range(many)]


def leaves(*stations):
    return tuple([(station, ()) for station in stations])


def counted(many):
    """A value with so many pairs, from 13 on, that is a way of TEN if these are not too many."""
    left, rows = many - 13, []
    for station in (1, 2, 3):
        inner = []
        for other in (7, 8, 9):
            inner.append((other, leaves(4, 5, 6)[:left]))
            left -= len(inner[-1][1])
        rows.append((station, tuple(inner)))
    value = (0, tuple(rows))
    for _ in range(left):
        value = (9 - value[0], (value,))
    return value


def spoilt(chance, value):
    """The way with one pair of it exchanged for something else."""
    if type(value) is not tuple or len(value) != 2 or type(value[1]) is not tuple:
        return (0, (value,))
    station, further = value
    if further and chance.random() < 0.7:
        place = chance.randrange(len(further))
        return (station, further[:place] + (spoilt(chance, further[place]),) + further[place + 1:])
    wrong = [None, (), (station,), [station, ()], (station, further, ()), (station, list(further)), (station, 0), (station, None)]
    wrong += [(other, further) for other in (10, -1, True, None, "0", (0,), chance.randrange(10), chance.randrange(10))]
    wrong += [(station, further + leaves(number)) for number in range(10)]
    wrong += [(station, further[::-1]), (station, further + further), (station, further + (0,)), (station, ((station, ()),) * 4)]
    return chance.choice(wrong)


def some_standing(chance, net, share, steps):
    """A standing for net in which about so large a share of all tracks is taken, by ways with such numbers of steps."""
    trains = [None] * chance.choice((0, 0, 1, 3))
    for station, many in enumerate(net[0]):
        for _ in range(many):
            if chance.random() < share:
                trains.append(some_way(chance, net, station, chance.choice(steps), 40)[0])
    trains = trains[-40:]
    chance.shuffle(trains)
    return tuple(trains)


def some_standings(seed, many):
    """As many pairs of a net and a standing for it, from empty ones to such with many jams."""
    chance = random.Random(seed)
    for net in some_nets(seed, many):
        share, steps = chance.choice((0.3, 0.8, 1, 1)), chance.choice(((0, 1, 2, 12), (1, 1, 2), (1, 2, 3, 4)))
        yield net, some_standing(chance, net, share, steps)


def nets_of_all_kinds(seed, many):
    """Rows, rings, stars, eights, lines one way alone, nets in several parts, small ones and ones by chance.

    None has so many lines that its rounds could not be told one by one.
    """
    chance = random.Random(seed)
    for size in range(1, 11):
        tracks = tuple(chance.choice((1, 1, 2, 4)) for _ in range(size))
        both = [(k, k + 1) for k in range(size - 1)] + [(k + 1, k) for k in range(size - 1)]
        ring = [(k, (k + 1) % size) for k in range(size)] if size > 1 else []
        star = [(0, k) for k in range(1, size)] + [(k, 0) for k in range(1, size)]
        eight = [(k, (k + 1) % (size // 2 + 1)) for k in range(size // 2 + 1)] + [(0, size // 2 + 1), (size - 1, 0)]
        eight += [(k, k + 1) for k in range(size // 2 + 1, size - 1)]
        down = [(i, j) for i in range(size) for j in range(i + 1, size)]
        apart = [(k, k ^ 1) for k in range(size // 2 * 2)]
        for lines in ([], both, ring, star, eight if size > 2 else [], down, apart, both + ring, ring + down[:size]):
            yield tracks, tuple(sorted(set(lines)))
    yield from small_nets()
    for tracks, lines in some_nets(seed, many):
        if len(lines) > 45:
            lines = tuple(sorted(chance.sample(lines, 30)))
        yield tuple(chance.choice((1, 1, 1, number)) for number in tracks), lines


def told_lot(net, standing, stations):
    """Whether these stations are a lot, by the document's words."""
    for station in stations:
        there = [item for item in standing if item is not None and item[0] == station]
        if len(there) != net[0][station]:
            return False
        for item in there:
            if not item[1] or any(branch[0] not in stations for branch in item[1]):
                return False
    return len(stations) > 0


def all_lots(net, standing):
    """All lots, as each tuple of full stations is asked."""
    firsts = [item[0] for item in standing if item is not None]
    full = [station for station, many in enumerate(net[0]) if firsts.count(station) == many]
    tuples = [lot for many in range(1, len(full) + 1) for lot in itertools.combinations(full, many)]
    return [lot for lot in tuples if told_lot(net, standing, lot)]


def crowded(seed, many):
    """Pairs of a net and a standing in which lots are likely; some of the nets consist of several rounds apart."""
    chance = random.Random(seed)
    for net in some_nets(seed, many):
        if len(net[0]) < 8:
            yield net, some_standing(chance, net, 1, (1, 1, 1, 2))
        for most in (1, 2):
            tracks = tuple(min(most, tracks) for tracks in net[0])
            lines = {tuple(chance.sample(range(len(tracks)), 2)) for _ in range(len(tracks) if len(tracks) > 1 else 0)}
            lines |= {line[::-1] for line in lines if chance.random() < 0.8}
            sparse = (tracks, tuple(sorted(lines)))
            yield sparse, some_standing(chance, sparse, chance.choice((0.9, 1)), (1, 1, 1, 2, 3))


@functools.lru_cache(maxsize=100)
def all_rounds(net):
    """All rounds, each begun at its least station."""
    found = []
    roads = [(station,) for station in range(len(net[0]))]
    behind = {station: [target for origin, target in net[1] if origin == station] for station in range(len(net[0]))}
    while roads:
        road = roads.pop()
        if len(road) > 1 and road[0] in behind[road[-1]]:
            found.append(road)
        roads.extend(road + (station,) for station in behind[road[-1]] if station > road[0] and station not in road)
    return tuple(found)


def comes(net):
    """Of each station the stations to which one comes from it by one line or more."""
    come = {station: {target for origin, target in net[1] if origin == station} for station in range(len(net[0]))}
    for between in come:
        for station in come:
            if between in come[station]:
                come[station] = come[station] | come[between]
    return come


def signs_changed(chance, text, signs, many):
    """As many texts, in each of which a sign of text is left out, put in or exchanged, or two are."""
    for _ in range(many):
        wrong = text
        for _ in range(chance.choice((1, 1, 2))):
            spot = chance.randint(0, len(wrong))
            put_in = chance.choice(("",) + tuple(signs))
            wrong = wrong[:spot] + put_in + wrong[spot + chance.randint(0, 1):]
        yield wrong


def examples(text):
    """The examples in text: triples of the line they stand in, what is called, and what is told of it."""
    found = []
    for number, line in enumerate(text.split("\n"), 1):
        if line.startswith(">>> "):
            found.append([number, line[4:], None])
        elif line and not line.startswith("# "):
            assert found[-1][2] is None, number
            found[-1][2] = line
    return found


def outcome(code, names):
    """What an example gives, in the words of the document."""
    try:
        return repr(eval(code, names))
    except ValueError as error:
        fields = ", ".join([repr(field) for field in vars(error).values()])
        return f"raises {error.__class__.__name__}({fields})"


def told_ungated(net):
    """The stations with one track that lie on a round and have no gate, as each other station is passed by in turn."""
    tracks, lines = net
    found = []
    for station, many in enumerate(tracks):
        others = [other for other in range(len(tracks)) if other != station]
        by = [station in comes((tracks, [line for line in lines if other not in line]))[station] for other in others]
        if many == 1 and station in comes(net)[station] and all(by):
            found.append(station)
    return tuple(found)


def told_closure(net, standing, station):
    """The least lot that holds station, () if none does, as all lots are looked at."""
    return min([lot for lot in all_lots(net, standing) if station in lot], key=len, default=())


def told_greatest(net, standing):
    """All stations of all lots."""
    return tuple(sorted({station for lot in all_lots(net, standing) for station in lot}))


def told_behind(standing, move):
    """The standing behind a move that can be made, read once more from the document."""
    train, target = move
    left = {None: None} | {branch[0]: branch for branch in standing[train][1]}
    return tuple([left[target] if k == train else item for k, item in enumerate(standing)])


def told_moves(net, standing):
    """All moves that can be made, in their order, read once more from the document."""
    firsts = [item[0] for item in standing if item is not None]
    found = []
    for train, item in enumerate(standing):
        if item is not None:
            targets = [branch[0] for branch in item[1]]
            found += [(train, target) for target in targets if firsts.count(target) < net[0][target]]
            found += [(train, None)] if not targets else []
    return found


def come_to(net, standing, most):
    """All standings that can be come to; as soon as there are more than most of them, those that were found."""
    seen, left = {standing}, [standing]
    while left and len(seen) <= most:
        now = left.pop()
        for move in told_moves(net, now):
            behind = told_behind(now, move)
            if behind not in seen:
                seen.add(behind)
                left.append(behind)
    return seen


def gets_home(net, standing, most):
    """Whether some run leads all trains off; None if more than most standings can be come to."""
    found = come_to(net, standing, most)
    return None if len(found) > most else any(set(now) <= {None} for now in found)


def gated_nets(seed, many):
    """Nets of all kinds, with a track more where one is needed."""
    for tracks, lines in nets_of_all_kinds(seed, many):
        more = told_ungated((tracks, lines))
        yield tuple(number + (station in more) for station, number in enumerate(tracks)), lines


def some_round(chance, net):
    """A round of net to which one comes by chance, () if one comes to none."""
    road = [chance.randrange(len(net[0]))]
    while True:
        targets = [target for origin, target in net[1] if origin == road[-1]]
        if not targets:
            return ()
        road.append(chance.choice(targets))
        if road[-1] in road[:-1]:
            return tuple(road[road.index(road[-1]):-1])


def before_a_lot(chance, net, steps):
    """A standing in which a round is full of trains that go round by it, but for one that is still to come to it."""
    stations = some_round(chance, net)
    standing = [item for item in some_standing(chance, net, chance.choice((0.3, 0.8)), steps) if item is None or item[0] not in stations]
    for place, station in enumerate(stations):
        target = stations[(place + 1) % len(stations)]
        standing += [(station, (some_way(chance, net, target, max(0, chance.choice(steps) - 2), 30)[0],)) for _ in range(net[0][station])]
    come = [(origin, target) for origin, target in net[1] if origin not in stations and target in stations]
    if come:
        origin, target = chance.choice(come)
        late = [train for train, item in enumerate(standing) if item is not None and item[0] == target][0]
        there = [train for train, item in enumerate(standing) if item is not None and item[0] == origin]
        if len(there) == net[0][origin]:
            standing[there[0]] = None
        standing[late] = (origin, (standing[late],))
    standing = standing[-40:]
    chance.shuffle(standing)
    return tuple(standing)


def nearly_stuck(seed, many, steps):
    """Pairs of a net, gated or not, and a standing in which some move is likely to bring a lot; it may have others."""
    chance = random.Random(seed)
    for net in nets_of_all_kinds(seed, many):
        yield net, before_a_lot(chance, net, steps)


def free_standings(seed, many, steps):
    """Pairs of a gated net and a standing for it without a lot, of which most are as full as such can be."""
    chance = random.Random(seed)
    for net in gated_nets(seed, many):
        if chance.random() < 0.7:
            standing = before_a_lot(chance, net, steps)
        else:
            standing = some_standing(chance, net, chance.choice((0.4, 0.8, 1, 1)), steps)
        while told_greatest(net, standing):
            lot = told_greatest(net, standing)
            train = chance.choice([train for train, item in enumerate(standing) if item is not None and item[0] in lot])
            standing = standing[:train] + (None,) + standing[train + 1:]
        yield net, standing


def turned_ranks(standing):
    """Values that are no ranks of standing."""
    many = len(standing)
    trains = tuple(range(many))
    found = [list(trains), trains + (many,), trains + (0,), trains + (None,), (-1,) + trains, {train: train for train in trains}, "", None, 0]
    if many:
        found += [trains[1:], trains[:-1], (), trains[:-1] + (many,), (-1,) + trains[1:], trains[:-1] + ("0",), trains[1:] + (False,), (None,) + trains[1:]]
        found += [(trains,), trains[:-1] + (10 ** 399,), trains[:-1] + ((0,),), trains[:-1] + ([0],), "".join(str(train) for train in trains)]
    if many > 1:
        found += [(True,) + (0,) + trains[2:], trains[:-1] + trains[:1], (0,) * many, trains[::-1][1:], ((0, 1),) + trains[2:]]
    return found


def held_lot(net, standing, station):
    """The least lot that holds station, () if none does: what is wanted from it on, if all of this is full and wants."""
    lot, left = set(), [station]
    while left:
        here = left.pop()
        there = [item for item in standing if item is not None and item[0] == here]
        if len(there) < net[0][here] or any(not item[1] for item in there):
            return ()
        if here not in lot:
            lot.add(here)
            left += [branch[0] for item in there for branch in item[1]]
    return tuple(sorted(lot))


def depth_of(way):
    """How many steps the longest walk through way has."""
    return max([depth_of(branch) + 1 for branch in way[1]], default=0)


def some_day(chance, net, many, most, steps):
    """A day on net with as many trains, whose entries, minutes and stays are not over most."""
    minutes = tuple(chance.randint(1, max(1, min(60, most))) for _ in net[1])
    trains = []
    for _ in range(many):
        way = some_way(chance, net, chance.randrange(len(net[0])), chance.choice(steps), 40)[0]
        stays = tuple(chance.choice((0, chance.randint(0, min(60, most)))) for _ in range(depth_of(way) + 1))
        trains.append((way, chance.choice((0, chance.randint(0, most))), stays, chance.choice((0, 0, chance.randint(0, 40)))))
    return net, minutes, tuple(trains)


def some_delays(chance, day, most):
    """Delays of day, each of them not over most."""
    return tuple([tuple([chance.choice((0, chance.randint(0, most))) for _ in range(len(stays) + 1)]) for _, _, stays, _ in day[2]])


def some_days(seed, many, most):
    """As many days on gated nets, with few trains and many, and delays of theirs."""
    chance = random.Random(seed)
    nets = list(gated_nets(seed, many))
    for _ in range(many):
        day = some_day(chance, chance.choice(nets), chance.choice((1, 2, 5, 9, 14)), chance.choice((0, 2, most)), chance.choice(((0, 1), (1, 2, 3), (4, 12))))
        yield day, chance.choice(((), some_delays(chance, day, chance.choice((0, 2, min(60, most))))))

"""What the tests share: calls that are looked after, values of all kinds, the examples of the document."""

import copy
import random
import unittest

# The names of the arguments as the document tells them, written out so that a renamed parameter fails.
ARGUMENTS = {
    "net_error": ("value",),
    "nexts": ("net", "station"),
    "befores": ("net", "station"),
    "turned": ("net",),
    "wider": ("net", "station"),
    "laid": ("net", "origin", "target"),
    "shut": ("net", "origin", "target"),
    "line_net": ("tracks",),
    "ring_net": ("tracks",),
    "star_net": ("tracks",),
    "eight_net": ("tracks", "many"),
    "net_text": ("net",),
    "read_net": ("value",),
    "way_error": ("net", "value"),
    "plain": ("stations",),
    "is_plain": ("way",),
    "choice": ("way", "station"),
    "stops": ("way",),
    "longest": ("way",),
    "shortest": ("way",),
    "ends": ("way",),
    "visits": ("way",),
    "walks": ("way",),
    "way_text": ("way",),
    "read_way": ("net", "value"),
}

BOTH = ((2, 1, 2), ((0, 1), (1, 0), (1, 2), (2, 1)))
LOOP = ((1, 1, 1), ((0, 1), (1, 2), (2, 0)))
TEN = ((4,) * 10, tuple((i, j) for i in range(10) for j in range(10) if i != j))


class OfficeCase(unittest.TestCase):
    """Looks after each call: by place and by name, again, with what is handed in left as it was."""

    def ways_to_call(self, function, arguments):
        names = ARGUMENTS[function.__name__]
        self.assertEqual(len(names), len(arguments))
        named = dict(zip(names, arguments))
        first, rest = arguments[:1], dict(list(named.items())[1:])
        backwards = dict(reversed(list(named.items())))
        return ((arguments, {}), ((), named), (first, rest), ((), backwards), (arguments, {}))

    def gives(self, expected, function, *arguments):
        """The call returns just this; repr tells True from 1, and a tuple from a list."""
        for place, named in self.ways_to_call(function, arguments):
            kept, before = copy.deepcopy(arguments), repr(arguments)
            result = function(*place, **named)
            self.assertEqual(repr(result), repr(expected), (function.__name__, arguments))
            self.assertEqual(result, expected)
            self.assertEqual(repr(arguments), before)
            self.assertEqual(arguments, kept)

    def refuses(self, error, fields, function, *arguments):
        """The call raises just this class, with these fields and no others."""
        for place, named in self.ways_to_call(function, arguments):
            kept, before = copy.deepcopy(arguments), repr(arguments)
            with self.assertRaises(error, msg=(function.__name__, arguments)) as caught:
                function(*place, **named)
            self.assertEqual(caught.exception.__class__.__name__, error.__name__)
            self.assertEqual(repr(vars(caught.exception)), repr(fields))
            self.assertEqual(repr(arguments), before)
            self.assertEqual(arguments, kept)


def nested(wrap, depth):
    value = wrap(0)
    for _ in range(depth - 1):
        value = wrap(value)
    return value


def any_values():
    """Values of all the kinds that may be handed in as any value; no net, no way and no text is among them."""
    return [
        None, True, False, 11, -1, 10 ** 400 - 1, 1 - 10 ** 400,
        "", " ", "\n", "form", "(0, ())", "~" * 20000, "9" * 400 + "x", "(" * 500, "0-(" * 700 + "0", "0-" * 1000, "\n" * 20000,
        (), [], {}, (0,), [0], {0: 0}, (None, None), (0, 0, 0), [(0, ())], [(1,), ()], {"station": 0}, {(0, 1): [1], None: ()},
        ((), (), ()), ("0", "1"), (("1",), [()]), ((1,), None), ((1,), {}), ([1], ()), ({1: 1}, ()), ("1", ()), (None, ()),
        nested(lambda value: (value,), 20), nested(lambda value: [value], 20), nested(lambda value: {0: value}, 20),
        nested(lambda value: (value, [value]), 8),
        (0,) * 3999, [0] * 4000, {number: number for number in range(2000)}, ("a" * 19, "b") * 2000,
    ]


def integers_not():
    """Values that are no integers, though Python takes some of them for some."""
    return [None, True, False, "0", "1", "", (), (1,), [1], {}, {1: 1}, ((0, 1),)]


def small_nets():
    """All nets of one, two and three stations with one track each."""
    for many in (1, 2, 3):
        pairs = [(i, j) for i in range(many) for j in range(many) if i != j]
        for chosen in range(2 ** len(pairs)):
            yield ((1,) * many, tuple(pair for place, pair in enumerate(pairs) if chosen >> place & 1))


def some_nets(seed, many):
    """As many nets of all sizes, the same ones for the same seed."""
    chance = random.Random(seed)
    for _ in range(many):
        size = chance.randint(1, 10)
        share = chance.choice((0.1, 0.3, 0.6, 1))
        tracks = tuple(chance.randint(1, 4) for _ in range(size))
        yield tracks, tuple((i, j) for i in range(size) for j in range(size) if i != j and chance.random() < share)


def some_way(chance, net, station, steps, room):
    """A way from station with at most so many steps, and how many pairs it leaves of those that there is room for."""
    room -= 1
    further = []
    targets = [target for origin, target in net[1] if origin == station]
    most = min(len(targets), chance.choice((1, 1, 1, 2, 3)), room)
    if steps and most > 0 and chance.random() < 0.9:
        for target in sorted(chance.sample(targets, most)):
            if room > 0:
                branch, room = some_way(chance, net, target, chance.choice((steps - 1, max(0, steps - 4))), room)
                further.append(branch)
    return (station, tuple(further)), room


def some_ways(chance, net, many):
    """As many ways of net."""
    return [some_way(chance, net, chance.randrange(len(net[0])), chance.randint(0, 12), 40)[0] for _ in range(many)]


def signs_changed(chance, text, signs, many):
    """As many texts, in each of which a sign of text is left out, put in or exchanged, or two are."""
    for _ in range(many):
        wrong = text
        for _ in range(chance.choice((1, 1, 2))):
            spot = chance.randint(0, len(wrong))
            put_in = chance.choice(("",) + tuple(signs))
            wrong = wrong[:spot] + put_in + wrong[spot + chance.randint(0, 1):]
        yield wrong


def examples(text):
    """The examples in text: triples of the line they stand in, what is called, and what is told of it."""
    found = []
    for number, line in enumerate(text.split("\n"), 1):
        if line.startswith(">>> "):
            found.append([number, line[4:], None])
        elif line and not line.startswith("# "):
            assert found[-1][2] is None, number
            found[-1][2] = line
    return found


def outcome(code, names):
    """What an example gives, in the words of the document."""
    try:
        return repr(eval(code, names))
    except ValueError as error:
        fields = ", ".join([repr(field) for field in vars(error).values()])
        return f"raises {error.__class__.__name__}({fields})"

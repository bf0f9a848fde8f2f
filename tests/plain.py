"""What the tests share: devices drawn by a fixed rule, any values, plain searches."""

import itertools
import unittest

from backinstep.devices import Device


class Draw:
    """Numbers by a fixed rule, so that each run of the tests looks at the same devices."""

    def __init__(self, seed):
        self.now = seed * 2654435761 % 2 ** 32 + 12345

    def below(self, many):
        self.now = (self.now * 6364136223846793005 + 1442695040888963407) % 2 ** 64
        return (self.now >> 33) % many

    def one_of(self, things):
        return things[self.below(len(things))]

    def shuffled(self, things):
        things = list(things)
        for at in range(len(things) - 1, 0, -1):
            other = self.below(at + 1)
            things[at], things[other] = things[other], things[at]
        return things

    def table(self, states):
        kind = self.below(4)
        if kind == 0:
            return self.shuffled(range(states))
        if kind == 1:
            # steps down a line, so that there are outsiders and pairs that meet
            return [self.below(state + 1) for state in range(states)]
        return [self.below(states) for _ in range(states)]

    def clocked(self, states, signals):
        """A device with a remainder that all signals move alike, so that it has hours."""
        modulus = 1 + self.below(states)
        tables = []
        for _ in range(signals):
            weight = self.below(modulus)
            by_rest = [[state for state in range(states) if state % modulus == rest] for rest in range(modulus)]
            tables.append([self.one_of(by_rest[(state + weight) % modulus]) for state in range(states)])
        return Device(tables)

    def device(self, states, signals):
        if self.below(3) == 0:
            return self.clocked(states, signals)
        return Device([self.table(states) for _ in range(signals)])

    def row(self, device, length):
        return "".join(self.one_of(device.signals) for _ in range(length))

    def family(self, device):
        lots = lots_of(device.signals)
        return self.shuffled(lots)[:1 + self.below(min(4, len(lots)))]


def clock(modulus, *weights):
    """The device of one remainder that each signal moves by its weight."""
    return Device([[(state + weight) % modulus for state in range(modulus)] for weight in weights])


def two_clocks(one, other, *weights):
    """The device of two remainders, side by side in each state."""
    return Device([
        [(state // other + a) % one * other + (state + b) % other for state in range(one * other)] for a, b in weights])


# with hours of one and of several parts
CLOCKS = [
    clock(2, 1), clock(3, 1, 2), clock(4, 1, 2, 3), clock(5, 3, 1), clock(5, 2, 4), clock(6, 1, 4), clock(6, 2, 3),
    clock(7, 3, 5, 6), clock(8, 3, 1), two_clocks(2, 2, (1, 0), (0, 1)), two_clocks(2, 2, (1, 1), (0, 1), (1, 0)),
    two_clocks(2, 4, (1, 1), (0, 1)), two_clocks(2, 4, (1, 2), (1, 3)), two_clocks(2, 3, (1, 1), (0, 2)),
]


def small_devices(seed, many, states=4, signals=3):
    draw = Draw(seed)
    return [draw.device(1 + draw.below(states), 1 + draw.below(signals)) for _ in range(many)]


def rows_to(signals, length):
    """All rows up to a length, the first ones first."""
    for many in range(length + 1):
        for signs in itertools.product(signals, repeat=many):
            yield "".join(signs)


def lots_of(signals):
    """All lots but the empty one, fewest signals first, then as strings."""
    lots = []
    for many in range(1, len(signals) + 1):
        lots += ["".join(signs) for signs in itertools.combinations(signals, many)]
    return lots


def end_of(device, state, row):
    for sign in row:
        state = device.tables["abcde".index(sign)][state]
    return state


def pairs_of(device):
    return list(itertools.combinations(range(device.states), 2))


def pair_end(device, pair, row):
    ends = sorted(end_of(device, state, row) for state in pair)
    return None if ends[0] == ends[1] else tuple(ends)


def reached_pairs(device, start):
    found = [start]
    for pair in found:
        for sign in device.signals:
            goal = pair_end(device, pair, sign)
            if goal is not None and goal not in found:
                found.append(goal)
    return found


def partitions(things):
    """All groupings of some things."""
    if not things:
        yield []
        return
    first, rest = things[0], things[1:]
    for groups in partitions(rest):
        yield [[first]] + groups
        for at in range(len(groups)):
            yield groups[:at] + [[first] + groups[at]] + groups[at + 1:]


def deep(many):
    value = 0
    for at in range(many):
        value = [value] if at % 2 else (value,)
    return value


def any_values():
    """Values of all kinds, made anew each time."""
    return [
        True, False, None, "", "a", "b", "ab", "ba", "aa", "z", "f", "0", "states", "A", -1, 0, 1, 2, 7, 60, 61,
        10 ** 18, 10 ** 18 + 1, -10 ** 18, 10 ** 40, [], (), [0], (0,), ["a"], ("a",), [0, 1], (0, 1), (1, 0), (0, 0),
        (True, 2), (False, True), (0, "a"), ("a", 0), [[]], ((),), [[0]], ((0,),), [[0, 0]], ((0, 1), (1, 0)), [None],
        (None, None), ["ab", "a"], ["a", "a"], [("a", 1)], (("a", 0),), [("", 1)], deep(40), [deep(39)] * 3,
        Device([(0,)]), Device([(0, 1), (1, 0)]), [Device([(0,)])], (Device([(0,)]), 0), 2 ** 64, (0, 1, 2), "abc",
        (0, 10 ** 20), ("", "a"), [1, 1, 1], (0, -1), [True], (False,), (True,), [True, False], "a b", "aab" * 3,
    ]


def same(one, other):
    """Whether two values are equal, kinds of integers included."""
    if isinstance(one, (list, tuple)):
        return type(one) is type(other) and len(one) == len(other) and all(map(same, one, other))
    return type(one) is type(other) and one == other


def is_tupled(value):
    """Whether no list is in a value."""
    if isinstance(value, list):
        return False
    return not isinstance(value, tuple) or all(map(is_tupled, value))


def listed(value):
    """The value with lists in the place of tuples."""
    if isinstance(value, (list, tuple)):
        return [listed(item) for item in value]
    return value


def bends(value, draw, leaves):
    """The value bent in each of its places: items left out, told twice, exchanged, and others in their place."""
    if isinstance(value, (list, tuple)):
        items = list(value)
        yield tuple(items)
        yield items
        yield items + [draw.one_of(leaves)]
        yield tuple(items[1:])
        yield tuple(items[:-1])
        if items:
            twice = draw.below(len(items))
            yield tuple(items[:twice + 1] + items[twice:])
            yield tuple(items[::-1])
            yield tuple(draw.shuffled(items))
        for at, item in enumerate(items):
            for bent in bends(item, draw, leaves):
                yield tuple(items[:at] + [bent] + items[at + 1:])
            yield tuple(items[:at] + items[at + 1:])
    elif isinstance(value, str):
        yield value + "a"
        yield value[1:]
        yield value[::-1]
        yield value * 2
        yield value + "z"
    elif isinstance(value, int):
        yield value + 1
        yield value - 1
        yield -value
        yield bool(value)
    yield draw.one_of(leaves)
    yield draw.one_of(leaves)


class Case(unittest.TestCase):
    """A test that also looks at what errors keep."""

    def refuses(self, error, told, call, *things, **named):
        with self.assertRaises(error) as caught:
            call(*things, **named)
        self.assertIs(type(caught.exception), error)
        kept = list(vars(caught.exception).values())
        self.assertEqual(len(kept), 1)
        self.assertTrue(kept[0] is told or same(kept[0], told), (kept[0], told))

    def outcome(self, call, *things):
        """What a call returns, or the error with what it keeps."""
        try:
            return call(*things)
        except (ValueError, KeyError) as error:
            return type(error), list(vars(error).values())


def plain_round(family, row):
    """Whether a row has all signals of some lot."""
    return any(set(lot) <= set(row) for lot in family)


def cuts_of(family, row):
    """How many rounds a row has, cut from the left."""
    many, given = 0, set()
    for sign in row:
        given.add(sign)
        if plain_round(family, given):
            many, given = many + 1, set()
    return many


def grouped(states, pairs):
    """The classes that joining pairs makes, by least states."""
    groups = [{state} for state in range(states)]
    for one, other in pairs:
        mine = [group for group in groups if group & {one, other}]
        groups = [group for group in groups if not group & {one, other}] + [set().union(*mine)]
    return tuple(sorted(tuple(sorted(group)) for group in groups))


def plain_most(device, family, start, step, longest=None):
    """The most cuts of a row along which a place is led to places, None if there is no most.

    `step(place, sign)` tells the next place, or None; `longest` the most signals of a round, and of what is behind the
    last one less one. Behind more cuts than there are places one place is cut twice.
    """
    seen = {(start, frozenset(), 0, 0)}
    queue = list(seen)
    most = 0
    for place, given, since, cuts in queue:
        for sign in device.signals:
            goal = step(place, sign)
            if goal is None:
                continue
            more = given | {sign}
            node = (goal, more, since + 1 if longest else 0, cuts)
            if plain_round(family, more):
                node = (goal, frozenset(), 0, cuts + 1)
            elif longest and since + 1 >= longest:
                continue
            most = max(most, node[3])
            if most > 2 ** device.states:
                return None
            if node not in seen:
                seen.add(node)
                queue.append(node)
    return most


def plain_rounds(device, family, pair, longest=None):
    """The most rounds of a row that keeps a pair apart, by a plain search."""
    return plain_most(device, family, pair, lambda place, sign: pair_end(device, place, sign), longest)


def places_after(device, states, row):
    return tuple(sorted({end_of(device, state, row) for state in states}))

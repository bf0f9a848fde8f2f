"""What a row does when it is said again and again."""

from math import lcm

from backinstep.basics import MOST_NUMBER, is_number_to
from backinstep.devices import effect_places, said_effect
from backinstep.errors import Refused


class Turn:
    """A row of a device that is said again and again."""

    def __init__(self, device, row):
        self.device = device
        self.once = device.effect(row)
        self.word = row
        self.rings = effect_rings(self.once)
        self.tails = effect_tails(self.once, self.rings)
        self.period = rings_period(self.rings)

    def said_at(self, times):
        """The effect of the row said a number of times."""
        if not is_number_to(times, 0, MOST_NUMBER):
            raise Refused(times)
        return said_effect(self.once, times)

    def left_at(self, times):
        """How many states the row leaves alone when it is said so many times."""
        if not is_number_to(times, 1, MOST_NUMBER):
            raise Refused(times)
        return sum([len(ring) for ring in self.rings if times % len(ring) == 0])

    def square_at(self):
        """The least times from 1 on at which the effect is its own square."""
        longest = max(max(self.tails), 1)
        return (longest + self.period - 1) // self.period * self.period

    def core(self):
        """The states on rings, ascending."""
        return tuple([state for state, tail in enumerate(self.tails) if tail == 0])


def effect_rings(effect):
    """The rings of an effect, each from its least state on, ascending."""
    rings = []
    seen = {}
    # behind as many times as there are states every state is on a ring
    for state in effect_places(said_effect(effect, len(effect))):
        if state not in seen:
            ring = [state]
            while effect[ring[-1]] != state:
                ring.append(effect[ring[-1]])
            for place in ring:
                seen[place] = True
            rings.append(tuple(ring))
    return tuple(rings)


def effect_tails(effect, rings):
    """By state how often the effect must be said until the state is on a ring."""
    known = {state: 0 for ring in rings for state in ring}
    for state in range(len(effect)):
        trail = []
        place = state
        while place not in known:
            trail.append(place)
            place = effect[place]
        far = known[place]
        for passed in reversed(trail):
            far += 1
            known[passed] = far
    return tuple([known[state] for state in range(len(effect))])


def rings_period(rings):
    """The least common multiple of the lengths of some rings."""
    period = 1
    for ring in rings:
        period = lcm(period, len(ring))
    return period


def effect_square(effect):
    """An effect said until it is its own square."""
    return said_effect(effect, rings_period(effect_rings(effect)) * len(effect))


def ring_numbers(turn):
    """The lengths of the rings, ascending, each with how many rings have it."""
    numbers = {}
    for ring in turn.rings:
        numbers[len(ring)] = numbers.get(len(ring), 0) + 1
    return tuple(sorted(list(numbers.items())))


def first_unlike(one, other):
    """The least times at which two turns leave unlike numbers alone, or None."""
    # rings with the least unlike length add nothing to any lesser number of times
    mine = dict(ring_numbers(one))
    theirs = dict(ring_numbers(other))
    unlike = [length for length in sorted(set(list(mine) + list(theirs))) if mine.get(length) != theirs.get(length)]
    return unlike[0] if unlike else None

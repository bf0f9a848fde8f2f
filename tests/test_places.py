"""How many places are taken behind so many rounds: point [38]."""

import itertools
import unittest

from backinstep.classes import class_stairs, fewest_notes, places_bound
from backinstep.devices import Device
from backinstep.errors import BadFamily, Refused
from backinstep.kept import most_rounds, tower_groupings, tower_numbers
from backinstep.places import apart_rounds, most_places, places_kept, places_row, sides_bound
from tests.plain import (
    Case, any_values, cuts_of, pairs_of, places_after, plain_most, plain_round, rows_to,
)
from tests.test_classes import drawn

LINE = Device([(0, 0, 1, 2), (0, 1, 2, 3)])


def plain_places(device, family, limit):
    """For t from 0 to a limit the most states taken behind a row with t rounds."""
    start = (tuple(range(device.states)), frozenset(), 0)
    queue, seen, most = [start], {start}, [0] * (limit + 1)
    for states, given, cuts in queue:
        most[cuts] = max(most[cuts], len(states))
        for sign in device.signals:
            more, count = given | {sign}, cuts
            if plain_round(family, more):
                more, count = frozenset(), cuts + 1
            node = (places_after(device, states, sign), more, count)
            if count <= limit and node not in seen:
                seen.add(node)
                queue.append(node)
    return most


class PlacesTest(Case):

    def test_most_places(self):
        for device, family in drawn(231, 60):
            most = most_places(device=device, family=tuple(family))
            plain = plain_places(device, family, 20)
            self.assertEqual(list(most) + [most[-1]] * (21 - len(most)), plain)
            self.assertTrue(len(most) == 1 or most[-1] < most[-2])
            numbers = tower_numbers(device, family)
            for many in range(8):
                told = most[min(many, len(most) - 1)]
                self.assertLessEqual(told, numbers[min(many, len(numbers) - 1)])
                self.assertLessEqual(told, places_bound(device, family, many))
                self.assertLessEqual(told, sides_bound(device, family, many))

    def test_edges(self):
        one = Device([[0]])
        self.assertEqual((most_places(one, ["a"]), places_row(one, ["a"], 3), sides_bound(one, ["a"], 7)), ((1,), "aaa", 1))
        self.assertEqual((most_places(LINE, ["ab"]), places_row(LINE, ["ab"], 2)), ((4, 3, 2, 1), "abab"))
        self.assertEqual(most_places(Device([[1, 2, 0]]), ["a"]), (3,))
        self.assertEqual(most_places(Device([[0, 0, 0]]), ["a"]), (3, 1))

    def test_places_row(self):
        for device, family in drawn(232, 50):
            rows = list(rows_to(device.signals, 5 if len(device.signals) == 3 else 8))
            plain = plain_places(device, family, 60)
            for many in (0, 1, 2, 3, 60):
                row = places_row(device=device, family=family, many=many)
                self.assertEqual(cuts_of(family, row), many)
                self.assertEqual(len(places_after(device, range(device.states), row)), plain[many])
                for told in rows:
                    if cuts_of(family, told) == many and len(told) <= len(row):
                        if len(places_after(device, range(device.states), told)) == plain[many]:
                            self.assertEqual(told, row)
                            break
                else:
                    self.assertGreater(len(row), len(rows[-1]))

    def test_places_kept(self):
        for device, family in drawn(233, 60):
            told = places_kept(device=device, family=family)
            self.assertIsInstance(told, tuple)
            row, again = told
            states = places_after(device, range(device.states), row)
            self.assertEqual(len(states), most_places(device, family)[-1])
            self.assertTrue(plain_round(family, again))
            self.assertEqual(places_after(device, states, again), states)

    def test_apart_rounds(self):
        for device, family in drawn(234, 60):
            for many in range(2, device.states + 1):
                for states in itertools.combinations(range(device.states), many):

                    def step(place, sign):
                        goal = places_after(device, place, sign)
                        return goal if len(goal) == len(place) else None

                    told = apart_rounds(device=device, family=family, states=states)
                    self.assertEqual(told, plain_most(device, family, states, step))
            for pair in pairs_of(device):
                self.assertEqual(apart_rounds(device, family, pair), most_rounds(device, family, pair))

    def test_sides_bound(self):
        for device, family in drawn(235, 60):
            stairs, tower = class_stairs(device, family), tower_groupings(device, family)
            notes = fewest_notes(device, family)
            for many in (0, 1, 2, 3, 4, 5, 9):
                sums = []
                for near in range(many + 1):
                    groups = stairs[min(near, len(stairs) - 1)]
                    classes = tower[min(many - near, len(tower) - 1)]
                    met = sorted(sum(bool(set(group) & set(told)) for told in classes) for group in groups)
                    sums.append(sum(met[-notes:]))
                self.assertEqual(sides_bound(device=device, family=family, many=many), min(sums))
                self.assertLessEqual(min(sums), places_bound(device, family, many))
                self.assertLessEqual(min(sums), len(tower[min(many, len(tower) - 1)]))
            self.assertEqual(sides_bound(device, family, 10 ** 18), notes)

    def test_more_states(self):
        for device, family in drawn(236, 6, states=8, signals=5):
            most = most_places(device, family)
            row = places_row(device, family, 60)
            self.assertEqual(list(most), sorted(most, reverse=True))
            self.assertEqual(cuts_of(family, row), 60)
            self.assertEqual(len(places_after(device, range(device.states), row)), most[min(60, len(most) - 1)])

    def test_wrong_values(self):
        for value in any_values():
            if not isinstance(value, (list, tuple)) or len(value) == 0:
                for call in (most_places, places_kept):
                    self.refuses(BadFamily, -1, call, LINE, value)
                for call in (places_row, apart_rounds, sides_bound):
                    self.refuses(BadFamily, -1, call, LINE, value, None)
            if type(value) is not int or not 0 <= value <= 60:
                self.refuses(Refused, value, places_row, LINE, ["ab"], value)
            if type(value) is not int or not 0 <= value <= 10 ** 18:
                self.refuses(Refused, value, sides_bound, LINE, ["ab"], value)
            if not isinstance(value, tuple) or value not in ((0, 1), (0, 1, 2)) or type(value[0]) is not int:
                self.refuses(Refused, value, apart_rounds, LINE, ["ab"], value)
        for value in ([0, 1], (0,), (0, 0), (1, 0), (0, 2, 1), (0, 4), (-1, 0), (0, True), (0, 1, 1), (0, 1, 2, 3, 4)):
            self.refuses(Refused, value, apart_rounds, LINE, ["ab"], value)


if __name__ == "__main__":
    unittest.main()

"""Rounds that are no longer than a pace: point [37]."""

import unittest

from backinstep.classes import sure_classes
from backinstep.devices import Device
from backinstep.errors import BadFamily, NoPair, Refused
from backinstep.kept import most_rounds, tower_numbers
from backinstep.paced import endless_row, least_pace, longest_apart, longest_row, paced_classes, paced_numbers
from tests.plain import Case, any_values, cuts_of, grouped, pair_end, pairs_of, plain_round, plain_rounds, rows_to
from tests.test_classes import drawn
from tests.test_sure import wrong_pairs

LINE = Device([(0, 0, 1, 2), (0, 1, 2, 3)])


def whole_most(device, family, pair, pace):
    """The most rounds of at most so many signals that keep a pair apart, by all pairs behind each number of rounds."""
    ends = {pair}
    for many in range(len(pairs_of(device)) + 2):
        rounds, places = set(), {(place, frozenset()) for place in ends}
        for _ in range(pace):
            longer = set()
            for place, given in places:
                for sign in device.signals:
                    goal = pair_end(device, place, sign)
                    if goal is not None and plain_round(family, given | {sign}):
                        rounds.add(goal)
                    elif goal is not None:
                        longer.add((goal, given | {sign}))
            places = longer
        if not rounds:
            return many
        ends = rounds
    return None


def has_pace(family, row, pace):
    since, given = 0, set()
    for sign in row:
        since += 1
        given.add(sign)
        if plain_round(family, given):
            if since > pace:
                return False
            since, given = 0, set()
    return since < pace


class PacedTest(Case):

    def test_told_example(self):
        self.assertEqual(longest_apart(LINE, ["ab"], (0, 3), 3), 8)
        self.assertEqual((least_pace(LINE, ["ab"], (0, 3)), least_pace(LINE, ["a", "b"], (0, 3))), (None, 1))

    def test_tower(self):
        for device, family in drawn(221, 50):
            sizes = []
            for pace in (1, 2, 3, 4, 6, 100):
                plain = {pair: whole_most(device, family, pair, min(pace, 20)) for pair in pairs_of(device)}
                last = max([most + 1 for most in plain.values() if most is not None], default=0)
                tower = [
                    grouped(device.states, [pair for pair in plain if plain[pair] is not None and plain[pair] < many])
                    for many in range(last + 1)]
                numbers = paced_numbers(device=device, family=tuple(family), pace=pace)
                self.assertEqual(numbers, tuple(map(len, tower)))
                self.assertEqual(list(numbers), sorted(set(numbers), reverse=True))
                self.assertEqual(paced_classes(device=device, family=family, pace=pace), tower[-1])
                sizes.append(len(tower[-1]))
            self.assertEqual(sizes, sorted(sizes))
            self.assertEqual(paced_classes(device, family, 100), sure_classes(device, family))
            self.assertEqual(paced_numbers(device, family, 100), tower_numbers(device, family))

    def test_no_round_is_so_short(self):
        still = Device([[0, 1, 2]] * 3)
        self.assertEqual((paced_numbers(still, ["abc"], 2), paced_classes(still, ["abc"], 2)), ((3, 1), ((0, 1, 2),)))
        self.assertEqual((paced_numbers(still, ["abc"], 3), paced_classes(still, ["abc"], 3)), ((3,), ((0,), (1,), (2,))))
        self.assertEqual((paced_numbers(Device([[0]]), ["a"], 1), paced_classes(Device([[0]]), ["a"], 1)), ((1,), ((0,),)))
        self.assertEqual((endless_row(still, ["abc"], (0, 1), 2), longest_apart(still, ["abc"], (0, 1), 2)), (None, 1))
        self.assertEqual((longest_row(still, ["abc"], (0, 1), 1), longest_apart(still, ["abc"], (0, 1), 1)), ("", 0))
        self.assertEqual(least_pace(still, ["abc"], (0, 1)), 3)

    def test_endless_rows(self):
        for device, family in drawn(222, 60):
            for pair in pairs_of(device):
                paces = [pace for pace in range(1, 13) if whole_most(device, family, pair, pace) is None]
                least = least_pace(device=device, family=family, pair=pair)
                self.assertEqual(least, paces[0] if paces else None)
                self.assertEqual(least is None, plain_rounds(device, family, pair) is not None)
                for pace in (1, 2, 3, 5, 100):
                    told = endless_row(device=device, family=family, pair=pair, pace=pace)
                    self.assertEqual(told is None, least is None or least > pace)
                    if told is not None:
                        self.look(device, family, pair, pace, told)

    def test_a_way_back_that_is_too_long(self):
        # a round of three signals leads back sooner than those of two
        device = Device([(2, 0, 3, 0), (0, 1, 2, 2)])
        for pair in ((0, 1), (0, 2), (0, 3), (1, 2)):
            self.look(device, ["ab"], pair, 2, endless_row(device, ["ab"], pair, 2))

    def look(self, device, family, pair, pace, told):
        row, again = told
        self.assertIsInstance(told, tuple)
        place = pair_end(device, pair, row)
        self.assertTrue(again != "" and place is not None and pair_end(device, place, again) == place)
        for rounds in (row, again):
            # whole rounds: nothing is behind the last cut
            self.assertTrue(rounds == "" or cuts_of(family, rounds) == cuts_of(family, rounds[:-1]) + 1)
            self.assertTrue(has_pace(family, rounds, pace) or pace == 1 and all(plain_round(family, sign) for sign in rounds))

    def test_longest_rows(self):
        for device, family in drawn(223, 60):
            for pair in pairs_of(device):
                for pace in (1, 2, 3, 4):
                    row = longest_row(device=device, family=family, pair=pair, pace=pace)
                    many = longest_apart(device=device, family=family, pair=pair, pace=pace)
                    self.assertEqual(row is None, endless_row(device, family, pair, pace) is not None)
                    if row is None:
                        self.assertIsNone(many)
                        continue
                    self.assertEqual(len(row), many)
                    self.assertTrue(has_pace(family, row, pace) and pair_end(device, pair, row) is not None)
                    self.assertEqual(many, self.longest(device, family, pair, pace))
                    rounds = whole_most(device, family, pair, pace)
                    self.assertLessEqual(many, pace * (rounds + 1) - 1)

    def longest(self, device, family, pair, pace):
        """How many signals a row of a pace can have, by all that is there behind each number of signals."""
        places, many = {(pair, frozenset(), 0)}, -1
        while places:
            many += 1
            longer = set()
            for place, given, since in places:
                for sign in device.signals:
                    goal = pair_end(device, place, sign)
                    if goal is None:
                        continue
                    if plain_round(family, given | {sign}):
                        longer.add((goal, frozenset(), 0))
                    elif since + 1 < pace:
                        longer.add((goal, given | {sign}, since + 1))
            places = longer
        return many

    def test_by_all_rows(self):
        for device, family in drawn(224, 30, states=3, signals=2):
            rows = list(rows_to(device.signals, 9))
            for pair in pairs_of(device):
                for pace in (1, 2, 3):
                    many = longest_apart(device, family, pair, pace)
                    fits = [row for row in rows if has_pace(family, row, pace) and pair_end(device, pair, row) is not None]
                    longest = max(map(len, fits))
                    self.assertEqual(many is None or many > 9 or many == longest, True)
                    self.assertEqual(longest == 9, many is None or many >= 9)

    def test_great_pace(self):
        for device, family in drawn(225, 6, states=8, signals=5):
            for pair in pairs_of(device)[::7]:
                row = longest_row(device, family, pair, 100)
                self.assertEqual(row is None, endless_row(device, family, pair, 100) is not None)
                if row is not None:
                    self.assertTrue(has_pace(family, row, 100) and pair_end(device, pair, row) is not None)
                    self.assertLessEqual(len(row), 100 * (most_rounds(device, family, pair) + 1) - 1)

    def test_wrong_values(self):
        for value in any_values():
            if not isinstance(value, (list, tuple)) or len(value) == 0:
                for call in (paced_numbers, paced_classes, least_pace):
                    self.refuses(BadFamily, -1, call, LINE, value, None)
                for call in (endless_row, longest_row, longest_apart):
                    self.refuses(BadFamily, -1, call, LINE, value, None, None)
            if type(value) is not int or not 1 <= value <= 100:
                for call in (paced_numbers, paced_classes):
                    self.refuses(Refused, value, call, LINE, ["ab"], value)
                for call in (endless_row, longest_row, longest_apart):
                    self.refuses(Refused, value, call, LINE, ["ab"], (0, 1), value)
        for value in wrong_pairs(LINE):
            self.refuses(NoPair, value, least_pace, LINE, ["ab"], value)
            for call in (endless_row, longest_row, longest_apart):
                self.refuses(NoPair, value, call, LINE, ["ab"], value, 0)
        for value in (0, 101, True):
            self.refuses(Refused, value, paced_numbers, LINE, ["ab"], value)


if __name__ == "__main__":
    unittest.main()

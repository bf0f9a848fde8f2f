"""How many rounds keep two states apart, the tower, keepers: points [31] to [36]."""

import itertools
import unittest

from backinstep.classes import enough_rounds, fewest_notes, sure_classes
from backinstep.devices import Device
from backinstep.errors import BadFamily, BadRow, NoPair, Refused, TooGreat
from backinstep.kept import (
    Keeper, apart_row, kept_numbers, most_holds, most_paper, most_rounds, round_steps, rounds_table, tower_device,
    tower_groupings, tower_numbers,
)
from backinstep.sure import is_sure, sure_pairs
from tests.plain import (
    Case, Draw, any_values, bends, cuts_of, grouped, is_tupled, listed, lots_of, pair_end, pairs_of, partitions,
    places_after, plain_round, plain_rounds, rows_to, small_devices,
)
from tests.test_classes import drawn
from tests.test_sure import wrong_pairs

LINE = Device([(0, 0, 1, 2), (0, 1, 2, 3)])


def order(most):
    return 10 ** 9 if most is None else most


class TowerTest(Case):

    def test_told_example(self):
        tower = (((0,), (1,), (2,), (3,)), ((0, 1), (2,), (3,)), ((0, 1, 2), (3,)), ((0, 1, 2, 3),))
        self.assertEqual(tower_groupings(LINE, ["ab"]), tower)
        self.assertEqual(most_rounds(LINE, ["ab"], (1, 3)), 2)
        self.assertEqual(apart_row(LINE, ["ab"], (0, 3), 2), "abab")
        self.assertEqual(kept_numbers(LINE, ["ab"], (0, 2), 2), (1, 2))

    def test_most_rounds(self):
        for device, family in drawn(211, 60):
            plain = {pair: plain_rounds(device, family, pair) for pair in pairs_of(device)}
            self.assertEqual(rounds_table(device=device, family=tuple(family)), tuple(sorted(plain.items())))
            for pair, most in plain.items():
                self.assertEqual(most_rounds(device=device, family=family, pair=pair), most)
                self.assertEqual(most is None, not is_sure(device, family, pair))
            for i, j, k in itertools.permutations(range(device.states), 3):
                told = [order(plain[tuple(sorted(pair))]) for pair in ((i, k), (i, j), (j, k))]
                self.assertLessEqual(told[0], max(told[1:]))
            told = {plain[pair] for pair in sure_pairs(device, family)}
            self.assertEqual(told, set(range(enough_rounds(device, family))))

    def test_tower(self):
        for device, family in drawn(212, 60):
            plain = {pair: plain_rounds(device, family, pair) for pair in pairs_of(device)}
            last = max([most + 1 for most in plain.values() if most is not None], default=0)
            tower = tuple(
                grouped(device.states, [pair for pair in plain if order(plain[pair]) < many]) for many in range(last + 1))
            self.assertEqual(tower_groupings(device=device, family=family), tower)
            numbers = tower_numbers(device=device, family=tuple(family))
            self.assertEqual(numbers, tuple(map(len, tower)))
            self.assertEqual(list(numbers), sorted(set(numbers), reverse=True))
            self.assertEqual((numbers[0], numbers[-1]), (device.states, fewest_notes(device, family)))
            self.assertEqual((tower[-1], last), (sure_classes(device, family), enough_rounds(device, family)))
            for row in rows_to(device.signals, 5 if len(device.signals) == 3 else 7):
                taken = len(places_after(device, range(device.states), row))
                self.assertLessEqual(taken, numbers[min(cuts_of(family, row), last)])

    def test_single_state(self):
        one = Device([[0]])
        self.assertEqual((tower_groupings(one, ["a"]), tower_numbers(one, ["a"]), rounds_table(one, ["a"])), ((((0,),),), (1,), ()))

    def test_round_steps(self):
        for device, family in drawn(213, 40, signals=2):
            rows = [row for row in rows_to(device.signals, 9) if cuts_of(family, row) == 1]
            rows = [row for row in rows if cuts_of(family, row[:-1]) == 0]
            for pair in pairs_of(device):
                ends = {}
                for row in rows:
                    goal = pair_end(device, pair, row)
                    if goal is not None:
                        ends.setdefault(goal, len(row))
                told = round_steps(device=device, family=family, pair=pair)
                self.assertEqual(told, tuple(sorted(ends.items())))

    def test_apart_row(self):
        for device, family in drawn(214, 50):
            rows = list(rows_to(device.signals, 6 if len(device.signals) == 3 else 9))
            for pair in pairs_of(device):
                for many in (0, 1, 2, 3):
                    row = apart_row(device=device, family=family, pair=pair, many=many)
                    fits = [
                        told for told in rows if cuts_of(family, told) == many and pair_end(device, pair, told) is not None]
                    if fits:
                        self.assertEqual(row, fits[0])
                    elif row is not None:
                        self.assertGreater(len(row), len(rows[-1]))
                        self.assertEqual((cuts_of(family, row), pair_end(device, pair, row) is None), (many, False))
                    self.assertEqual(row is None, order(plain_rounds(device, family, pair)) < many)
                self.assertEqual(apart_row(device, family, pair, 60) is None, is_sure(device, family, pair))
        self.assertEqual(len(apart_row(Device([[0, 1]] * 2), ["ab"], (0, 1), 60)), 120)

    def test_kept_numbers(self):
        for device, family in drawn(215, 40):
            rows = list(rows_to(device.signals, 5))
            for pair in pairs_of(device):
                for length in range(6):
                    counts = [0] * 7
                    for row in rows:
                        if len(row) == length and pair_end(device, pair, row) is not None:
                            counts[cuts_of(family, row)] += 1
                    while counts and counts[-1] == 0:
                        counts.pop()
                    told = kept_numbers(device=device, family=family, pair=pair, length=length)
                    self.assertEqual(told, tuple(counts))
        still = Device([[0, 1]] * 5)
        told = kept_numbers(still, ["abcde"], (0, 1), 60)
        self.assertEqual((sum(told), len(told), told[12]), (5 ** 60, 13, 120 ** 12))
        self.assertEqual(kept_numbers(still, list("abcde"), (0, 1), 60), (0,) * 60 + (5 ** 60,))

    def test_wrong_values(self):
        pair_calls = (most_rounds, round_steps, most_paper, Keeper)
        long_calls = (apart_row, kept_numbers, most_holds)
        for value in any_values():
            if not isinstance(value, (list, tuple)) or len(value) == 0:
                for call in (tower_groupings, tower_numbers, rounds_table):
                    self.refuses(BadFamily, -1, call, LINE, value)
                for call in pair_calls:
                    self.refuses(BadFamily, -1, call, LINE, value, None)
                for call in long_calls:
                    self.refuses(BadFamily, -1, call, LINE, value, None, None)
            if type(value) is not int or not 0 <= value <= 60:
                self.refuses(Refused, value, apart_row, LINE, ["ab"], (0, 1), value)
                self.refuses(Refused, value, kept_numbers, LINE, ["ab"], (0, 1), value)
        for value in wrong_pairs(LINE):
            for call in pair_calls:
                self.refuses(NoPair, value, call, LINE, ["ab"], value)
            for call in long_calls:
                self.refuses(NoPair, value, call, LINE, ["ab"], value, None)
        for call in pair_calls:
            self.refuses(BadFamily, 1, call, LINE, ["a", "c"], (0, 1))


class MostPaperTest(Case):

    def plain_holds(self, device, family, pair, value):
        if not isinstance(value, (list, tuple)) or len(value) != 3 or value[0] != "most":
            return False
        _, row, triples = value
        if not isinstance(row, str) or not set(row) <= set(device.signals) or len(row) > 10000:
            return False
        if not isinstance(triples, (list, tuple)) or pair_end(device, pair, row) is None:
            return False
        heights = {}
        for triple in triples:
            if not isinstance(triple, (list, tuple)) or len(triple) != 3 or not isinstance(triple[0], (list, tuple)):
                return False
            place, lot, height = triple
            if any(type(state) is not int for state in place) or tuple(place) not in pairs_of(device):
                return False
            if not isinstance(lot, str) or lot not in [""] + lots_of(device.signals):
                return False
            if type(height) is not int or height < 0 or (tuple(place), lot) in heights:
                return False
            heights[(tuple(place), lot)] = height
        for (place, lot), height in heights.items():
            for sign in device.signals:
                goal = pair_end(device, place, sign)
                if goal is not None:
                    more, cut = "".join(sorted(set(lot + sign))), False
                    if plain_round(family, more):
                        more, cut = "", True
                    if not heights.get((goal, more), 10 ** 9) <= height - cut:
                        return False
        return heights.get((pair, "")) == cuts_of(family, row)

    def test_papers(self):
        for device, family in drawn(216, 60):
            for pair in pairs_of(device):
                paper = most_paper(device=device, family=family, pair=pair)
                self.assertEqual(paper is None, not is_sure(device, family, pair))
                if paper is not None:
                    self.assertEqual(cuts_of(family, paper[1]), plain_rounds(device, family, pair))
                    self.assertEqual(list(paper[2]), sorted(paper[2]))
                    self.assertTrue(is_tupled(paper) and self.plain_holds(device, family, pair, paper))
                    self.assertIs(most_holds(device, family, pair, paper), True)
                    turned = [paper[0], paper[1], listed(paper[2])[::-1]]
                    self.assertIs(most_holds(device=device, family=family, pair=pair, value=turned), True)

    def test_bent(self):
        draw = Draw(217)
        many = held = 0
        for device, family in drawn(217, 30, signals=2):
            for pair in sure_pairs(device, family)[:3]:
                for bent in bends(most_paper(device, family, pair), draw, any_values()):
                    holds = self.plain_holds(device, family, pair, bent)
                    many, held = many + 1, held + holds
                    self.assertIs(most_holds(device, family, pair, bent), holds)
        self.assertGreater(many - held, 1000)
        self.assertGreater(held, 50)

    def test_some_papers(self):
        drop = Device([(0, 0), (0, 1)])
        self.assertTrue(most_holds(drop, ["a", "b"], (0, 1), ["most", "", [[[0, 1], "", 0]]]) is False)
        good = ["most", "b", [[[0, 1], "", 0], [[0, 1], "b", 0]]]
        self.assertTrue(most_holds(drop, ["ab"], (0, 1), good))
        # a full lot will do, since the next signal cuts
        self.assertTrue(most_holds(drop, ["ab"], (0, 1), ["most", "b", good[2] + [[[0, 1], "ab", 1]]]))
        self.assertFalse(most_holds(drop, ["ab"], (0, 1), ["most", "b", good[2] + [[[0, 1], "ab", 0]]]))
        self.assertFalse(most_holds(drop, ["ab"], (0, 1), ["most", "b", good[2] + good[2][:1]]))
        self.assertFalse(most_holds(drop, ["ab"], (0, 1), ["most", "b", good[2][:1]]))
        self.assertFalse(most_holds(drop, ["ab"], (0, 1), ["most", "a", good[2]]))
        self.assertTrue(most_holds(drop, ["ab"], (0, 1), ["most", "b" * 10000, good[2]]))
        self.assertFalse(most_holds(drop, ["ab"], (0, 1), ["most", "b" * 10001, good[2]]))
        for value in any_values():
            for bent in (value, ("most", value, good[2]), ("most", "b", value), ["most", "b", [value]],
                         ["most", "b", good[2] + [value]], ["most", "b", [[value, "", 0]]],
                         ["most", "b", [[[0, 1], value, 0]] + good[2]], ["most", "b", [[[0, 1], "", value], good[2][1]]]):
                self.assertIs(most_holds(drop, ["ab"], (0, 1), bent), self.plain_holds(drop, ["ab"], (0, 1), bent))


class TowerDeviceTest(Case):

    def coarser(self, groups):
        for parts in partitions(list(groups)):
            if len(parts) < len(groups):
                yield [sum(part, []) for part in parts]

    def chains(self, states):
        queue = [[[[state] for state in range(states)]]]
        for chain in queue:
            yield chain
            queue += [chain + [groups] for groups in self.coarser(chain[-1])]

    def test_all_towers(self):
        draw = Draw(218)
        many = 0
        for states in (1, 2, 3, 4):
            for chain in self.chains(states):
                told = [draw.shuffled([draw.shuffled(group) for group in groups]) for groups in chain]
                tables = 1 + len(chain[min(1, len(chain) - 1)]) - len(chain[-1])
                device = tower_device(groupings=told)
                self.assertEqual(len(device.signals), tables)
                tower = tuple(tuple(sorted(tuple(sorted(group)) for group in groups)) for groups in chain)
                self.assertEqual(tower_groupings(device, list(device.signals)), tower)
                many += 1
        self.assertGreater(many, 50)

    def test_told_tables(self):
        self.assertEqual(tower_device([[[0]]]), Device([[0]]))
        self.assertEqual(tower_device((((1,), (0,)),)), Device([[0, 1]]))
        self.assertEqual(tower_device([[[0], [1], [2]], [[2, 0], [1]]]), Device([[0, 1, 0]]))
        line = [[[0], [1], [2], [3]], [[0, 1], [2], [3]], [[0, 1, 2], [3]], [[0, 1, 2, 3]]]
        self.assertEqual(tower_device(line), Device([(0, 0, 0, 0), (0, 0, 1, 0), (0, 0, 0, 2)]))

    def test_too_many(self):
        single = [[state] for state in range(8)]
        line = [[list(range(many))] + single[many:] for many in range(1, 9)]
        self.refuses(TooGreat, 5, tower_device, line)
        self.assertEqual(len(tower_device([line[0]] + line[3:]).signals), 5)
        self.refuses(TooGreat, 5, tower_device, line[:7])
        self.assertEqual(len(tower_device(line[:6]).signals), 5)

    def test_refused(self):
        single = [[0], [1], [2]]
        four = single + [[3]]
        for value in any_values() + [
                [four, [[0, 1], [2], [3]], [[0, 2], [1, 3]]], [four, [[0, 1, 2], [3], []]], [four, [[0, 1, 2], (), [3]]],
                [single, single], [[[0, 1], [2]]], [single, [[0, 1], [2]], [[0], [1, 2]]], [single, [[0, 1]]],
                [single, [[0, 1], [2], []]], [single, [[0, 1], [1, 2]]], [single, [[0, 1], [2, 2]]], [single, [[0, 3], [1, 2]]],
                [[[0], [True]]], [[[False]]], [[[0], [1], [2.5]]], [[[0], [2]]], [[[1], [2]]], [single, None], [single, [0, 1, 2]],
                [[[state] for state in range(9)]], [single, [[0, 1, 2]], []], [single, [[0, 1, 2]], [[0, 1], [2]]]]:
            self.refuses(Refused, value, tower_device, value)


class KeeperTest(Case):

    def test_told_example(self):
        keeper = Keeper(LINE, ["ab"], (0, 3))
        self.assertIsNone(keeper.hear("aa"))
        self.assertEqual((keeper.standing(), keeper.more_rounds(), keeper.next_row()), (((0, 1), "a", 0), 1, "b"))

    def further(self, device, family, row, pair, length):
        """By further row how many cuts it makes while it keeps the pair apart."""
        start = cuts_of(family, row)
        for more in rows_to(device.signals, length):
            if pair_end(device, pair, row + more) is not None:
                yield more, cuts_of(family, row + more) - start

    def test_by_all_further_rows(self):
        draw = Draw(219)
        for device, family in drawn(219, 40, signals=2):
            for pair in pairs_of(device)[:3]:
                keeper = Keeper(device=device, family=tuple(family), pair=pair)
                said = ""
                for _ in range(3):
                    place, lot, cuts = keeper.standing()
                    self.assertEqual((place, cuts), (pair_end(device, pair, said), cuts_of(family, said)))
                    starts = [at for at in range(len(said) + 1) if cuts_of(family, said[:at]) == cuts]
                    self.assertEqual(lot, "".join(sorted(set(said[starts[0]:]))))
                    more = keeper.more_rounds()
                    if place is None:
                        self.assertEqual((more, keeper.next_row()), (-1, None))
                    else:
                        self.look(device, family, pair, said, keeper)
                    row = draw.row(device, draw.below(4))
                    keeper.hear(row=row)
                    said += row

    def look(self, device, family, pair, said, keeper):
        more, row = keeper.more_rounds(), keeper.next_row()
        tellings = list(self.further(device, family, said, pair, 8))
        greatest = max(cuts for _, cuts in tellings)
        self.assertTrue(more is None or more >= greatest)
        self.assertEqual(more is None, not is_sure(device, family, pair_end(device, pair, said)))
        if more == 0:
            self.assertIsNone(row)
            return
        self.assertIsNotNone(row)
        base = cuts_of(family, said)
        self.assertEqual((cuts_of(family, said + row), cuts_of(family, said + row[:-1])), (base + 1, base))
        goal = None if more is None else more - 1
        for told in rows_to(device.signals, len(row)):
            if cuts_of(family, said + told) == base + 1 and pair_end(device, pair, said + told) is not None:
                if cuts_of(family, said + told[:-1]) == base:
                    fresh = plain_rounds(device, family, pair_end(device, pair, said + told))
                    if fresh == goal:
                        self.assertEqual(told, row)
                        break
        else:
            self.fail("no such row")

    def test_wrong_rows_change_nothing(self):
        keeper = Keeper(LINE, ["ab"], (0, 3))
        keeper.hear("ba")
        told = keeper.standing(), keeper.more_rounds(), keeper.next_row()
        for value in any_values():
            if not isinstance(value, str):
                self.refuses(BadRow, -1, keeper.hear, value)
        self.refuses(BadRow, 2, keeper.hear, "abc")
        self.refuses(BadRow, 10000, keeper.hear, "a" * 10001)
        self.assertEqual((keeper.standing(), keeper.more_rounds(), keeper.next_row()), told)
        keeper.hear("ab" * 5000)
        self.assertEqual((keeper.standing(), keeper.more_rounds(), keeper.next_row()), ((None, "", 5001), -1, None))
        keeper.hear("")
        keeper.hear("b")
        self.assertEqual(keeper.standing(), (None, "b", 5001))

    def test_two_keepers(self):
        family = ["ab"]
        one, other = Keeper(LINE, family, (0, 3)), Keeper(LINE, family, (0, 3))
        family.append("a")
        one.hear("ab")
        self.assertEqual((one.standing(), other.standing()), (((0, 2), "", 1), ((0, 3), "", 0)))
        far = Keeper(Device([[0, 1, 0]]), ["a"], (0, 1))
        self.assertEqual((far.more_rounds(), far.next_row()), (None, "a"))

    def test_more_states(self):
        for device in small_devices(220, 10, states=8, signals=5):
            family = [device.signals]
            for pair in pairs_of(device)[::5]:
                keeper = Keeper(device, family, pair)
                self.assertEqual(keeper.more_rounds(), most_rounds(device, family, pair))
                paper = most_paper(device, family, pair)
                self.assertTrue(paper is None or most_holds(device, family, pair, paper))


if __name__ == "__main__":
    unittest.main()

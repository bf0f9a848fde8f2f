"""Sure pairs, their papers, and pairs that meet by chance: points [24] to [27]."""

import itertools
import unittest

from backinstep.devices import Device
from backinstep.errors import BadFamily, NoPair
from backinstep.families import both_family, either_family, is_stricter, least_lots
from backinstep.sure import (
    apart_holds, apart_paper, chance_pairs, far_pairs, is_sure, joining_row, needed_lots, stuck_row, sure_holds,
    sure_pairs, sure_paper, weakest_family,
)
from tests.plain import (
    Case, Draw, any_values, bends, end_of, is_tupled, listed, lots_of, pair_end, pairs_of, reached_pairs, rows_to,
    small_devices,
)
from tests.test_families import all_families, plain_round, told_order

LINE = Device([(0, 0, 1, 3), (0, 1, 2, 3)])
WIDE = [Draw(111).device(60, 5), Draw(112).clocked(60, 5), Device([[max(0, state - 1) for state in range(60)]] * 5)]


def plain_sure(device, family, pair):
    """Whether no endless row with rounds without end keeps a pair apart, by a search with the signals since a cut."""

    def steps(node):
        place, given = node
        for sign in device.signals:
            goal = pair_end(device, place, sign)
            more = given | {sign}
            if goal is not None:
                cut = plain_round(family, more)
                yield (goal, frozenset() if cut else more), cut

    def reached(start):
        found = [start]
        for node in found:
            for goal, _ in steps(node):
                if goal not in found:
                    found.append(goal)
        return found

    for node in reached((pair, frozenset())):
        for goal, cut in steps(node):
            if cut and node in reached(goal):
                return False
    return True


def wrong_pairs(device):
    """Values that are no pairs of a device of four states."""
    good = pairs_of(device)
    values = any_values() + [[0, 1], (1, 0), (2, 2), (0, 4), (0, True), (False, 1), (0, 1, 2), "ab"]
    return [value for value in values if not isinstance(value, tuple) or value not in good or any(
        type(state) is not int for state in value)]


class SureTest(Case):

    def test_told_example(self):
        self.assertEqual(sure_pairs(LINE, ["ab"]), ((0, 1), (0, 2), (1, 2)))
        self.assertEqual(sure_pairs(LINE, ["a", "b"]), ())
        self.assertEqual((needed_lots(LINE, (0, 2)), needed_lots(LINE, (0, 3))), (("a",), ()))

    def test_by_endless_rows(self):
        draw = Draw(113)
        for device in small_devices(113, 60):
            for _ in range(3):
                family = draw.family(device)
                sure = tuple(pair for pair in pairs_of(device) if plain_sure(device, family, pair))
                self.assertEqual(sure_pairs(device, tuple(family)), sure)
                far = tuple(pair for pair in pairs_of(device) if pair not in sure)
                self.assertEqual(far_pairs(device=device, family=family), far)
                for pair in pairs_of(device):
                    self.assertIs(is_sure(device=device, family=family, pair=pair), pair in sure)
        self.assertEqual((sure_pairs(Device([[0]]), ["a"]), far_pairs(Device([[0]]), ["a"])), ((), ()))

    def test_of_two_families(self):
        draw = Draw(114)
        for device in small_devices(114, 60):
            one, other = draw.family(device), draw.family(device)
            mine, theirs = set(sure_pairs(device, one)), set(sure_pairs(device, other))
            self.assertEqual(set(sure_pairs(device, either_family(device, one, other))), mine & theirs)
            self.assertTrue(mine | theirs <= set(sure_pairs(device, both_family(device, one, other))))
            if is_stricter(device, one, other):
                self.assertTrue(theirs <= mine)

    def test_needed_lots(self):
        for device in small_devices(115, 60):
            for pair in pairs_of(device):
                lots = [lot for lot in lots_of(device.signals) if is_sure(device, [lot], pair)]
                least = [lot for lot in lots if not any(set(other) < set(lot) for other in lots)]
                self.assertEqual(needed_lots(device=device, pair=pair), told_order(least))

    def test_weakest_family(self):
        draw = Draw(116)
        for device in small_devices(116, 60, signals=2) + small_devices(117, 8):
            families = all_families(device.signals, 3 if len(device.signals) < 3 else 4)
            pairs = draw.shuffled(pairs_of(device))[:draw.below(4)]
            weakest = weakest_family(device, pairs)
            good = [family for family in families if all(is_sure(device, family, pair) for pair in pairs)]
            self.assertEqual(weakest is None, not good)
            if good:
                self.assertEqual(weakest, least_lots(device, weakest))
                self.assertTrue(all(is_stricter(device, family, weakest) for family in good))
                self.assertTrue(all(is_sure(device, weakest, pair) for pair in pairs))
        self.assertEqual(weakest_family(device=LINE, pairs=[(0, 1), (1, 2)]), ("a",))
        self.assertEqual((weakest_family(LINE, ((0, 3),)), weakest_family(LINE, ())), (None, ("a", "b")))
        five = Device([[0, 0]] * 2 + [[0, 1]] * 3)
        self.assertEqual(weakest_family(five, [(0, 1)] * 30), ("a", "b"))

    def test_wrong_values(self):
        for value in any_values():
            if not isinstance(value, (list, tuple)) or len(value) == 0:
                for call in (is_sure, apart_paper, apart_holds, sure_holds):
                    self.refuses(BadFamily, -1, call, LINE, value, None)
                for call in (sure_pairs, far_pairs, sure_paper):
                    self.refuses(BadFamily, -1, call, LINE, value)
        for call in (is_sure, apart_paper, apart_holds, sure_holds):
            self.refuses(BadFamily, 1, call, LINE, ["a", "c"], None)
        for value in wrong_pairs(LINE):
            self.refuses(NoPair, value, is_sure, LINE, ["ab"], value)
            self.refuses(NoPair, value, apart_paper, LINE, ["ab"], value)
            self.refuses(NoPair, value, needed_lots, LINE, value)
            self.refuses(NoPair, value, joining_row, LINE, value)
            self.refuses(NoPair, value, stuck_row, LINE, value)
            self.refuses(NoPair, value, weakest_family, LINE, [(0, 1), value, None])


class ApartTest(Case):

    def plain_holds(self, device, family, value):
        if not isinstance(value, (list, tuple)) or len(value) != 4 or value[0] != "apart":
            return False
        _, pair, row, again = value
        if not isinstance(pair, (list, tuple)) or tuple(pair) not in pairs_of(device):
            return False
        if any(type(state) is not int for state in pair):
            return False
        for told in (row, again):
            if not isinstance(told, str) or len(told) > 10000 or not set(told) <= set(device.signals):
                return False
        place = pair_end(device, pair, row)
        return place is not None and plain_round(family, again) and pair_end(device, place, again) == place

    def test_papers(self):
        draw = Draw(121)
        for device in small_devices(121, 60):
            family = draw.family(device)
            for pair in pairs_of(device):
                paper = apart_paper(device=device, family=family, pair=pair)
                self.assertEqual(paper is None, is_sure(device, family, pair))
                if paper is not None:
                    self.assertEqual(paper[:2], ("apart", pair))
                    self.assertTrue(is_tupled(paper) and self.plain_holds(device, family, paper))
                    self.assertIs(apart_holds(device=device, family=family, value=listed(paper)), True)

    def test_bent(self):
        draw = Draw(122)
        many = held = 0
        for device in small_devices(122, 40):
            family = draw.family(device)
            for pair in far_pairs(device, family):
                for bent in bends(apart_paper(device, family, pair), draw, any_values()):
                    many += 1
                    holds = self.plain_holds(device, family, bent)
                    held += holds
                    self.assertIs(apart_holds(device, family, bent), holds)
        self.assertGreater(many, 2000)
        self.assertGreater(many - held, 1000)
        self.assertGreater(held, 100)

    def test_any_value(self):
        for value in any_values():
            self.assertIs(apart_holds(LINE, ["ab"], value), False)
            for at in range(4):
                bent = ["apart", (0, 3), "", "ab"]
                bent[at] = value
                self.assertIs(apart_holds(LINE, ["ab"], bent), self.plain_holds(LINE, ["ab"], bent))

    def test_edges(self):
        self.assertTrue(apart_holds(LINE, ["ab"], ["apart", [0, 3], "b" * 10000, "ab" * 5000]))
        self.assertFalse(apart_holds(LINE, ["ab"], ["apart", [0, 3], "b" * 10001, "ab"]))
        self.assertFalse(apart_holds(LINE, ["ab"], ["apart", [0, 3], "b", "ab" * 5000 + "a"]))
        turned = Device([(1, 0), (0, 1)])
        self.assertTrue(apart_holds(turned, ["ab"], ("apart", (0, 1), "a", "ab")))
        self.assertFalse(apart_holds(LINE, ["ab"], ("apart", (0, 3), "", "a")))
        self.assertFalse(apart_holds(LINE, ["ab"], ("apart", (0, 2), "aa", "ab")))

    def test_wide(self):
        for device in WIDE:
            for family in (["abcde"], ["a", "bcd"], ["ce", "ad"]):
                for pair in ((0, 1), (30, 59), (58, 59)):
                    paper = apart_paper(device, family, pair)
                    self.assertEqual(paper is None, is_sure(device, family, pair))
                    self.assertTrue(paper is None or apart_holds(device, family, paper))


class SurePaperTest(Case):

    def plain_holds(self, device, family, value):
        if not isinstance(value, (list, tuple)) or len(value) != 3 or value[0] != "sure":
            return False
        _, heights, lacks = value
        if not isinstance(heights, (list, tuple)) or not isinstance(lacks, (list, tuple)):
            return False
        for lack in lacks:
            if lack not in lots_of(device.signals) or not all(set(lack) & set(lot) for lot in family):
                return False
        table = {}
        for entry in heights:
            if not isinstance(entry, (list, tuple)) or len(entry) != 2 or not isinstance(entry[0], (list, tuple)):
                return False
            pair = entry[0]
            if any(type(state) is not int for state in pair) or tuple(pair) not in pairs_of(device):
                return False
            if type(entry[1]) is not int or not 0 <= entry[1] < len(lacks) or tuple(pair) in table:
                return False
            table[tuple(pair)] = entry[1]
        for pair, height in table.items():
            for sign in device.signals:
                goal = pair_end(device, pair, sign)
                if goal is not None and not table.get(goal, len(lacks)) <= height - (sign in lacks[height]):
                    return False
        return True

    def test_papers(self):
        draw = Draw(123)
        for device in small_devices(123, 60):
            family = draw.family(device)
            paper = sure_paper(device=device, family=family)
            self.assertEqual((paper[0], tuple(entry[0] for entry in paper[1])), ("sure", sure_pairs(device, family)))
            self.assertTrue(is_tupled(paper) and self.plain_holds(device, family, paper))
            self.assertIs(sure_holds(device, family, paper), True)
            turned = [paper[0], listed(paper[1])[::-1], list(paper[2])]
            self.assertIs(sure_holds(device=device, family=family, value=turned), True)

    def test_bent(self):
        draw = Draw(124)
        many = held = 0
        for device in small_devices(124, 40) + [LINE]:
            family = draw.family(device)
            for bent in bends(sure_paper(device, family), draw, any_values()):
                many += 1
                holds = self.plain_holds(device, family, bent)
                held += holds
                self.assertIs(sure_holds(device, family, bent), holds)
                if holds:
                    pairs = [tuple(entry[0]) for entry in bent[1]]
                    self.assertTrue(set(pairs) <= set(sure_pairs(device, family)))
        self.assertGreater(many - held, 1000)
        self.assertGreater(held, 100)

    def test_any_value(self):
        for value in any_values():
            for bent in (value, ("sure", value, ("a",)), ("sure", (), value), ["sure", [[(0, 1), value]], ["a"]],
                         ("sure", [value], ["a"]), ("sure", [[value, 0]], ["a"]), (value, (), ()), ("sure", (), [value])):
                self.assertIs(sure_holds(LINE, ["ab"], bent), self.plain_holds(LINE, ["ab"], bent))

    def test_some_papers(self):
        self.assertTrue(sure_holds(LINE, ["ab"], ("sure", (), ())))
        self.assertTrue(sure_holds(LINE, ["ab"], ["sure", [[[0, 1], 0]], ["a", "b", "ab"]]))
        self.assertFalse(sure_holds(LINE, ["ab"], ["sure", [[[0, 1], 0]], ["b"]]))
        self.assertFalse(sure_holds(LINE, ["ab", "b"], ["sure", [[[0, 1], 0]], ["a"]]))
        self.assertFalse(sure_holds(LINE, ["ab"], ["sure", [[[0, 1], 1]], ["a"]]))
        self.assertFalse(sure_holds(LINE, ["ab"], ["sure", [[[0, 2], 0]], ["a"]]))
        self.assertFalse(sure_holds(LINE, ["ab"], ["sure", [[[0, 1], 0], [[0, 1], 0]], ["a"]]))
        rising = Device([(0, 0, 0), (0, 2, 2)])
        self.assertTrue(sure_holds(rising, ["a"], ["sure", [[[0, 1], 0], [[0, 2], 0]], ["a", "a"]]))
        self.assertTrue(sure_holds(rising, ["a"], ["sure", [[[0, 1], 1], [[0, 2], 0]], ["a", "a"]]))
        self.assertFalse(sure_holds(rising, ["a"], ["sure", [[[0, 1], 0], [[0, 2], 1]], ["a", "a"]]))
        self.assertFalse(sure_holds(rising, ["a"], ["sure", [[[0, 1], 0], [[0, 2], 0]], ["ab", "a"]]))
        self.assertTrue(sure_holds(rising, ["ab"], ["sure", [[[0, 1], 1], [[0, 2], 0]], ["a", "ab"]]))

    def test_wide(self):
        for device in WIDE:
            for family in (["abcde"], ["a", "b", "c", "d", "e"], ["ce", "ad"], lots_of("abcde")):
                self.assertTrue(sure_holds(device, family, sure_paper(device, family)))


class ChanceTest(Case):

    def test_by_all_pairs_reached(self):
        for device in small_devices(125, 80):
            joinable = {}
            for pair in pairs_of(device):
                rows = [row for row in rows_to(device.signals, 5) if pair_end(device, pair, row) is None]
                deep = any(
                    pair_end(device, place, sign) is None
                    for place in reached_pairs(device, pair) for sign in device.signals)
                joinable[pair] = deep
                row = joining_row(device, pair)
                self.assertEqual(row is not None, deep)
                if rows:
                    self.assertEqual(row, rows[0])
                elif deep:
                    self.assertIsNone(pair_end(device, pair, row))
            chance = []
            for pair in pairs_of(device):
                stuck = {place for place in reached_pairs(device, pair) if not joinable[place]}
                row = stuck_row(device=device, pair=pair)
                if not stuck:
                    chance.append(pair)
                    self.assertIsNone(row)
                else:
                    rows = [told for told in rows_to(device.signals, len(row)) if pair_end(device, pair, told) in stuck]
                    self.assertEqual(row, rows[0])
            self.assertEqual(chance_pairs(device), tuple(chance))
            for family in ([device.signals], list(device.signals)):
                self.assertTrue(set(sure_pairs(device, family)) <= set(chance))

    def test_edges(self):
        self.assertEqual(chance_pairs(Device([[0]])), ())
        self.assertEqual((joining_row(device=LINE, pair=(1, 2)), joining_row(LINE, (0, 3))), ("aa", None))
        self.assertEqual((stuck_row(LINE, (0, 3)), stuck_row(LINE, (0, 2))), ("", None))
        coin = Device([(1, 0, 0), (1, 2, 2)])
        self.assertEqual(joining_row(coin, (0, 1)), "ba")
        half = Device([(0, 0, 2), (0, 2, 0)])
        self.assertEqual((end_of(half, 1, "b"), chance_pairs(half)), (2, ((0, 1), (0, 2), (1, 2))))
        line = WIDE[2]
        self.assertEqual(joining_row(line, (0, 59)), "a" * 59)
        self.assertEqual(len(chance_pairs(line)), 1770)

    def test_wide(self):
        for device in WIDE:
            for pair in itertools.islice(pairs_of(device), 0, None, 97):
                row, stuck = joining_row(device, pair), stuck_row(device, pair)
                if row is not None:
                    self.assertTrue(pair_end(device, pair, row) is None and pair_end(device, pair, row[:-1]) is not None)
                if stuck is not None:
                    self.assertIsNone(joining_row(device, pair_end(device, pair, stuck)))


if __name__ == "__main__":
    unittest.main()

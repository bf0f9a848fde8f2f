"""Groupings and the finest ones with a wish: points [74] to [76]."""

import itertools
import unittest

from backinstep.classes import sure_classes
from backinstep.devices import Device, few_signals
from backinstep.errors import BadFamily, NoPair, PaperFault, Refused, TooGreat
from backinstep.groupings import (
    all_groupings, check_finest, check_grouping, finest_counter, finest_holds, finest_paper, finest_right,
    finest_together, finest_yes, grouped_device, is_within, joined_grouping, met_grouping, single_grouping,
    spanned_grouping,
)
from backinstep.hours import device_hours
from backinstep.sure import far_pairs
from backinstep.verdicts import is_yes, yes_holds
from backinstep.webs import Web, outsiders, web_districts
from tests.plain import (
    CLOCKS, Case, Draw, any_values, bends, clock, end_of, is_tupled, listed, lots_of, pairs_of, partitions, plain_round,
    same, small_devices,
)
from tests.test_classes import drawn
from tests.test_notes import is_plain_row

TOLD = Device([(2, 1, 2, 3), (1, 2, 0, 2)])


def numbered(groups):
    names = {state: at for at, group in enumerate(sorted(map(sorted, groups))) for state in group}
    return tuple(names[state] for state in range(len(names)))


def are_kept(device, groups):
    homes = {state: at for at, group in enumerate(groups) for state in group}
    return all(len({homes[table[state]] for state in group}) == 1 for table in device.tables for group in groups)


def plain_groupings(device):
    return sorted(numbered(groups) for groups in partitions(list(range(device.states))) if are_kept(device, groups))


def joins(grouping):
    return {pair for pair in itertools.combinations(range(len(grouping)), 2) if grouping[pair[0]] == grouping[pair[1]]}


def plain_grouped(device, grouping):
    leasts = [grouping.index(group) for group in range(max(grouping) + 1)]
    return Device([[grouping[table[state]] for state in leasts] for table in device.tables])


def finest_of(groupings, wish):
    """Of the groupings with a wish the one that lies within all others."""
    told = [grouping for grouping in groupings if wish(grouping)]
    least = [one for one in told if all(joins(one) <= joins(other) for other in told)]
    assert len(least) == 1
    return least[0], told


def square_of(effect):
    power = effect
    while tuple(power[power[state]] for state in range(len(power))) != power:
        power = tuple(effect[state] for state in power)
    return power


class GroupingTest(Case):

    def test_all(self):
        for device in small_devices(561, 100, states=5) + [Device([[0]]), Device([[0, 1, 2, 3, 4]]), clock(6, 1)]:
            plain = plain_groupings(device)
            self.assertTrue(same(all_groupings(device=device, most=20000), tuple(plain)))
            self.assertEqual(all_groupings(device, most=len(plain)), tuple(plain))
            for most in {1, len(plain) // 2, len(plain) - 1} - {0}:
                if most < len(plain):
                    self.refuses(TooGreat, most, all_groupings, device, most=most)

    def test_very_many(self):
        still = Device([tuple(range(8))] * 5)
        self.assertEqual(len(all_groupings(still, most=4140)), 4140)
        self.refuses(TooGreat, 4139, all_groupings, still, most=4139)

    def test_check(self):
        for device in small_devices(562, 60):
            plain = plain_groupings(device)
            for numbers in itertools.product(range(device.states), repeat=device.states):
                if numbers in plain:
                    self.assertTrue(same(check_grouping(device=device, grouping=list(numbers)), numbers))
                    self.assertTrue(same(check_grouping(device, numbers), numbers))
                else:
                    self.refuses(Refused, numbers, check_grouping, device, numbers)
                    self.refuses(Refused, list(numbers), grouped_device, device, list(numbers))

    def test_single_and_joined(self):
        draw = Draw(563)
        for device in small_devices(563, 80, states=5):
            single = single_grouping(device=device)
            self.assertTrue(same(single, tuple(range(device.states))))
            self.assertEqual(joined_grouping(device, []), single)
            self.assertEqual(joined_grouping(device, ()), single)
            plain = plain_groupings(device)
            for _ in range(4):
                pairs = [draw.one_of(pairs_of(device)) for _ in range(draw.below(3))] if device.states > 1 else []
                finest, _ = finest_of(plain, lambda grouping: set(pairs) <= joins(grouping))
                self.assertTrue(same(joined_grouping(device=device, pairs=pairs), finest))

    def test_two(self):
        draw = Draw(564)
        for device in small_devices(564, 60):
            plain = plain_groupings(device)
            for _ in range(6):
                one, other = draw.one_of(plain), draw.one_of(plain)
                self.assertIs(is_within(device=device, one=list(one), other=other), joins(one) <= joins(other))
                met = met_grouping(device=device, one=one, other=list(other))
                self.assertTrue(met in plain and is_tupled(met))
                self.assertEqual(joins(met), joins(one) & joins(other))
                finest, _ = finest_of(plain, lambda grouping: joins(one) | joins(other) <= joins(grouping))
                self.assertTrue(same(spanned_grouping(device=device, one=one, other=list(other)), finest))

    def test_grouped(self):
        for device in small_devices(565, 60):
            for grouping in plain_groupings(device):
                made = grouped_device(device=device, grouping=list(grouping))
                self.assertEqual(made, plain_grouped(device, grouping))
                for state in range(device.states):
                    for sign in device.signals:
                        self.assertEqual(made.step(grouping[state], sign), grouping[device.step(state, sign)])

    def test_wrong_values(self):
        device = Device([(0, 0, 1), (0, 1, 2)])
        good = plain_groupings(device)
        for value in any_values():
            for grouping in (value, [value] * 3, (0, 0, value), (0, value, 1)):
                if any(same(list(told), listed(grouping)) for told in good):
                    continue
                self.refuses(Refused, grouping, check_grouping, device, grouping)
                self.refuses(Refused, grouping, grouped_device, device, grouping)
                for call in (is_within, met_grouping, spanned_grouping):
                    self.refuses(Refused, grouping, call, device, grouping, None)
                    self.refuses(Refused, grouping, call, device, (0, 1, 2), grouping)
            if not (isinstance(value, tuple) and len(value) == 2 and type(value[0]) is int is type(value[1])
                    and 0 <= value[0] < value[1] < 3):
                self.refuses(NoPair, value, joined_grouping, device, [(0, 1), value, None])
            if not isinstance(value, (list, tuple)):
                self.refuses(NoPair, value, joined_grouping, device, value)
        self.refuses(NoPair, [0, 1], joined_grouping, device, [[0, 1]])
        for wrong in ((0, 2, 1), (1, 1, 1), (0, 1), (0, 0, 0, 0), (0, -1, 0), (True, True, True), (False, 1, 2)):
            self.refuses(Refused, wrong, check_grouping, device, wrong)


class FinestTest(Case):

    def wished(self, seed, many):
        for device, family in drawn(seed, many):
            yield device, family, plain_groupings(device)

    def test_told_example(self):
        self.assertEqual(finest_yes(TOLD), (0, 0, 0, 1))

    def check_finest_of(self, plain, told, wish, above):
        finest, wished = finest_of(plain, wish)
        self.assertTrue(same(told, finest))
        if above:
            self.assertEqual(wished, [grouping for grouping in plain if joins(finest) <= joins(grouping)])

    def test_yes(self):
        sizes = set()
        for device, family, plain in self.wished(571, 80):
            told = finest_yes(device=device, family=tuple(family))
            sizes.add((device.states, max(told) + 1))
            self.check_finest_of(plain, told, lambda grouping: is_yes(plain_grouped(device, grouping), family), True)
            self.check_finest_of(plain, finest_yes(device), lambda grouping: is_yes(plain_grouped(device, grouping)), True)
            self.assertEqual(finest_yes(device, None), finest_yes(device, [device.signals]))
        self.assertTrue({(4, 4), (4, 3), (4, 2), (4, 1)} <= sizes)

    def test_yes_of_more_states(self):
        for device in small_devices(572, 30, states=6, signals=2):
            plain = plain_groupings(device)
            self.check_finest_of(plain, finest_yes(device), lambda grouping: is_yes(plain_grouped(device, grouping)), True)

    def test_together(self):
        for device, family, plain in self.wished(573, 80):
            told = finest_together(device=device, family=tuple(family))
            self.check_finest_of(plain, told, lambda grouping: not far_pairs(plain_grouped(device, grouping), family), True)
            self.assertEqual(finest_together(device), finest_together(device, [device.signals]))
            web = Web(device, "pairs")
            full = [pair for knot, held in zip(web.knots, web.held) for pair in knot if plain_round(family, held)]
            self.assertEqual(told, joined_grouping(device, full))

    def test_right(self):
        for device, _, plain in self.wished(574, 70):
            def wish(grouping):
                few = plain_grouped(device, grouping)
                return all(is_yes(few_signals(few, lot)) for lot in lots_of(few.signals))
            self.check_finest_of(plain, finest_right(device=device), wish, True)

    def test_right_of_five_signals(self):
        draw = Draw(575)
        for _ in range(8):
            device = draw.device(4, 5)
            plain = plain_groupings(device)
            def wish(grouping):
                few = plain_grouped(device, grouping)
                return all(is_yes(few_signals(few, lot)) for lot in lots_of(few.signals))
            self.check_finest_of(plain, finest_right(device), wish, True)

    def test_counter(self):
        for device, _, plain in self.wished(576, 100):
            def wish(grouping):
                tables = plain_grouped(device, grouping).tables
                if any(len(set(table)) < len(table) for table in tables):
                    return False
                return all(one[other[state]] == other[one[state]] for one in tables for other in tables
                           for state in range(len(one)))
            self.check_finest_of(plain, finest_counter(device=device), wish, False)

    def test_counter_of_one_district(self):
        many = 0
        for device in small_devices(577, 150) + CLOCKS:
            if len(web_districts(device)) == 1 and not outsiders(device):
                many += 1
                hours = device_hours(device)[0]
                groups = {}
                for state in range(device.states):
                    groups.setdefault(hours.hour_at(state), []).append(state)
                self.assertEqual(finest_counter(device), numbered(groups.values()))
        self.assertGreater(many, 30)

    def test_together_of_sure_classes(self):
        # if all states are sure nothing is joined
        for device, family, _ in self.wished(578, 40):
            if len(sure_classes(device, family)) == 1:
                self.assertEqual(finest_together(device, family), single_grouping(device))

    def test_edges(self):
        one = Device([[0]])
        for call in (finest_yes, finest_together, finest_right, finest_counter):
            self.assertEqual(call(one), (0,))
        self.assertEqual(finest_counter(clock(8, 3)), tuple(range(8)))
        self.assertEqual(finest_together(clock(8, 3)), (0,) * 8)

    def test_sixty_states(self):
        twist = Device([[(state + 1) % 60 for state in range(60)], [1, 0] + list(range(2, 60))])
        self.assertEqual((finest_yes(twist), finest_counter(twist)), ((0,) * 60, (0,) * 60))
        self.assertTrue(finest_holds(twist, None, finest_paper(twist)))

    def test_wrong_values(self):
        for value in any_values():
            if value is not None and (not isinstance(value, (list, tuple)) or len(value) == 0):
                for call in (finest_yes, finest_together, finest_paper):
                    self.refuses(BadFamily, -1, call, TOLD, value)
                for call in (check_finest, finest_holds):
                    self.refuses(BadFamily, -1, call, TOLD, value, None)
        self.refuses(BadFamily, 1, finest_yes, TOLD, ["a", "c"])
        self.refuses(BadFamily, 0, finest_holds, TOLD, [""], None)


class FinestPaperTest(Case):

    def plain_fault(self, device, family, value):
        """The place of the first fault, None if there is none, written anew."""
        seq = (list, tuple)
        if not isinstance(value, seq) or len(value) != 3 or not isinstance(value[0], str) or value[0] != "finest":
            return 0
        if not isinstance(value[1], seq):
            return 0
        for join in value[1]:
            if not isinstance(join, seq) or len(join) != 4 or not isinstance(join[0], str):
                return 0
            states, rows = {"pair": (join[1:3], join[3:]), "out": (join[1:2], join[2:])}.get(join[0], ((), ()))
            if not states or any(type(state) is not int or not 0 <= state < device.states for state in states):
                return 0
            if not all(is_plain_row(device, row) for row in rows):
                return 0
        names = list(range(device.states))
        for at, join in enumerate(value[1]):
            grouping = numbered([[state for state in range(device.states) if names[state] == name] for name in set(names)])
            few = plain_grouped(device, grouping)
            pair = self.joined(few, grouping, family, join)
            if pair is None:
                return at + 1
            merged = {grouping[state] for state in pair}
            names = [min(merged) if group in merged else group for group in grouping]
            names = self.closed(device, names)
        grouping = numbered([[state for state in range(device.states) if names[state] == name] for name in set(names)])
        return None if yes_holds(plain_grouped(device, grouping), family, value[2]) else len(value[1]) + 1

    def closed(self, device, names):
        changed = True
        while changed:
            changed = False
            for one, other in itertools.combinations(range(device.states), 2):
                for table in device.tables:
                    low, high = sorted((names[table[one]], names[table[other]]))
                    if names[one] == names[other] and low != high:
                        names, changed = [low if name == high else name for name in names], True
        return names

    def joined(self, few, grouping, family, join):
        family = family or [few.signals]
        if join[0] == "pair":
            i, j, again = grouping[join[1]], grouping[join[2]], join[3]
            homes = [hours for hours in device_hours(few) if i in hours.district and j in hours.district]
            if i == j or not homes or homes[0].hour_at(i) != homes[0].hour_at(j) or not plain_round(family, again):
                return None
            return join[1:3] if end_of(few, i, again) == i and end_of(few, j, again) == j else None
        state, again, way = join[1:]
        group = grouping[state]
        if group not in outsiders(few) or not plain_round(family, again) or end_of(few, group, again) != group:
            return None
        if end_of(few, group, way) in outsiders(few):
            return None
        kept = square_of(few.effect(again))
        led = square_of(tuple(end_of(few, place, way) for place in kept))
        return state, grouping.index(kept[led[group]])

    def test_papers(self):
        kinds = set()
        for device, family in drawn(581, 100):
            for told in (family, None):
                paper = finest_paper(device, told)
                self.assertTrue(is_tupled(paper))
                self.assertIsNone(self.plain_fault(device, told, paper))
                self.assertIsNone(check_finest(device=device, family=told, value=paper))
                self.assertIs(finest_holds(device=device, family=told, value=listed(paper)), True)
                self.assertEqual(paper, finest_paper(device=device, family=told))
                kinds |= {join[0] for join in paper[1]} | {len(paper[1])}
        self.assertTrue({"pair", "out", 0, 1, 2} <= kinds)

    def test_the_joins_make_the_finest_grouping(self):
        for device, family in drawn(582, 60):
            paper = finest_paper(device, family)
            names = list(range(device.states))
            for join in paper[1]:
                grouping = numbered([[state for state in range(device.states) if names[state] == name] for name in set(names)])
                pair = self.joined(plain_grouped(device, grouping), grouping, family, join)
                names = self.closed(device, [grouping[pair[0]] if group == grouping[pair[1]] else group for group in grouping])
            grouping = numbered([[state for state in range(device.states) if names[state] == name] for name in set(names)])
            self.assertEqual(grouping, finest_yes(device, family))

    def test_bent(self):
        draw = Draw(583)
        faults = {}
        for device, family in drawn(583, 40):
            for bent in bends(finest_paper(device, family), draw, any_values()):
                fault = self.plain_fault(device, family, bent)
                faults[fault] = faults.get(fault, 0) + 1
                self.assertIs(finest_holds(device, family, bent), fault is None)
                if fault is None:
                    self.assertIsNone(check_finest(device, family, bent))
                else:
                    self.refuses(PaperFault, fault, check_finest, device, family, bent)
        self.assertTrue(all(faults[fault] > 20 for fault in (None, 0, 1, 2)))

    def test_any_value(self):
        paper = finest_paper(TOLD)
        join = paper[1][0]
        self.assertEqual(join[:3], ("pair", 0, 1))
        for good in (["pair", 1, 0, join[3]], ["pair", 0, 1, join[3] * 1600], ["pair", 1, 2, "bbabbabbb"]):
            self.assertEqual(self.plain_fault(TOLD, None, ["finest", [good], paper[2]]), None)
            self.assertTrue(finest_holds(TOLD, None, ["finest", [good], paper[2]]))
        for fault, joined in ((0, [["pair", 0, 1, "ab" * 5001]]), (0, [["pair", 0, 4, "ab"]]), (0, [["pair", 0, -1, "ab"]]),
                              (0, [join, ["pairs", 0, 1, "ab"]]), (1, [["pair", 0, 0, join[3]]]), (1, [["pair", 0, 3, "ab"]]),
                              (1, [["pair", 0, 1, "a"]]), (2, [join, join]), (1, [["out", 0, "ab", "b"]])):
            self.refuses(PaperFault, fault, check_finest, TOLD, None, ["finest", joined, paper[2]])
        self.refuses(PaperFault, 2, check_finest, TOLD, None, ["finest", [join], None])
        self.refuses(PaperFault, 1, check_finest, TOLD, None, ["finest", [], paper[2]])
        for value in any_values():
            for bent in (value, ("finest", value, paper[2]), ("finest", paper[1], value), (value, paper[1], paper[2]),
                         ("finest", (value,), paper[2]), ("finest", (("pair", value, 1, join[3]),), paper[2]),
                         ("finest", (("pair", 0, value, join[3]),), paper[2]), ("finest", (("pair", 0, 1, value),), paper[2]),
                         ("finest", ((value, 0, 1, join[3]),), paper[2]), ("finest", (("out", 3, value, "b"),), paper[2]),
                         ("finest", (("out", value, "ab", "b"),), paper[2]), ("finest", (join, ("out", 3, "a", value)), paper[2])):
                fault = self.plain_fault(TOLD, None, bent)
                self.assertIs(finest_holds(TOLD, None, bent), fault is None)
                if fault is not None:
                    self.refuses(PaperFault, fault, check_finest, TOLD, None, bent)


if __name__ == "__main__":
    unittest.main()

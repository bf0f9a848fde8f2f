"""Classes, stairs, and outsiders on their way in: points [27] to [30]."""

import itertools
import unittest

from backinstep.classes import (
    chance_classes, class_device, class_numbers, class_stairs, enough_rounds, fewest_notes, out_holds, out_paper,
    out_stairs, places_bound, sure_classes,
)
from backinstep.devices import Device
from backinstep.errors import BadFamily, Refused
from backinstep.forms import doubled_signal, renamed_device, swapped_signals
from backinstep.sure import chance_pairs, is_sure, sure_pairs
from backinstep.webs import Web, outsiders
from tests.plain import (
    Case, Draw, any_values, bends, cuts_of, end_of, grouped, is_tupled, listed, lots_of, pairs_of, places_after,
    plain_round, plain_rounds, rows_to, small_devices,
)

LINE = Device([(0, 0, 1, 3), (0, 1, 2, 3)])


def drawn(seed, many, states=4, signals=3):
    draw = Draw(seed)
    return [(device, draw.family(device)) for device in small_devices(seed, many, states, signals)]


def round_ends(device, family, places, step):
    """Where rounds lead some places, by a search with the signals that were given."""
    queue = [(place, frozenset()) for place in places]
    for place, given in queue:
        for sign in device.signals:
            goal = step(place, sign)
            if goal is not None and (goal, given | {sign}) not in queue:
                queue.append((goal, given | {sign}))
    return {place for place, given in queue if plain_round(family, given)}


class ClassTest(Case):

    def test_told_example(self):
        stairs = (((0, 1, 2), (3,)), ((0, 1), (2,), (3,)), ((0,), (1,), (2,), (3,)))
        self.assertEqual((class_stairs(LINE, ["ab"]), places_bound(LINE, ["ab"], 1)), (stairs, 3))

    def test_classes(self):
        for device, family in drawn(201, 80):
            classes = sure_classes(device=device, family=tuple(family))
            self.assertEqual(classes, grouped(device.states, sure_pairs(device, family)))
            # sure states make classes: all of one class are sure with one another
            inside = [pair for group in classes for pair in itertools.combinations(group, 2)]
            self.assertEqual(tuple(sorted(inside)), sure_pairs(device, family))
            chance = chance_classes(device=device)
            inside = [pair for group in chance for pair in itertools.combinations(group, 2)]
            self.assertEqual(tuple(sorted(inside)), chance_pairs(device))
            self.assertTrue(set(sure_pairs(device, family)) <= set(chance_pairs(device)))
            numbers = class_numbers(device=device, family=family)
            self.assertTrue(all(state in classes[number] for state, number in enumerate(numbers)))
            self.assertEqual(fewest_notes(device=device, family=family), len(classes))
            made = class_device(device=device, family=family)
            for sign in device.signals:
                for state in range(device.states):
                    self.assertEqual(made.step(numbers[state], sign), numbers[device.step(state, sign)])
            self.assertEqual(sure_pairs(made, family), ())

    def test_single_state(self):
        one = Device([[0]])
        self.assertEqual((sure_classes(one, ["a"]), chance_classes(one), class_numbers(one, ["a"])), (((0,),), ((0,),), (0,)))
        self.assertEqual((class_stairs(one, ["a"]), enough_rounds(one, ["a"]), fewest_notes(one, ["a"])), ((((0,),),), 0, 1))
        self.assertEqual((class_device(one, ["a"]), places_bound(one, ["a"], 5)), (one, 1))

    def test_stairs(self):
        for device, family in drawn(202, 60):
            stairs = class_stairs(device=device, family=family)
            self.assertEqual(stairs[0], sure_classes(device, family))
            for stair, later in zip(stairs, stairs[1:]):
                pairs = [pair for group in stair for pair in itertools.combinations(group, 2)]
                ends = round_ends(device, family, pairs, lambda pair, sign: self.led(device, pair, sign))
                self.assertEqual(later, grouped(device.states, ends))
            sizes = [len(stair) for stair in stairs]
            self.assertEqual(sizes, sorted(set(sizes)))
            self.assertEqual(sizes[-1], device.states)
            self.assertTrue(is_tupled(stairs))

    def led(self, device, pair, sign):
        ends = sorted(end_of(device, state, sign) for state in pair)
        return tuple(ends) if ends[0] != ends[1] else None

    def test_enough_rounds(self):
        for device, family in drawn(203, 50):
            many = [plain_rounds(device, family, pair) for pair in sure_pairs(device, family)]
            enough = enough_rounds(device=device, family=family)
            self.assertEqual(enough, max([most + 1 for most in many], default=0))
            self.assertLessEqual(enough, device.states - fewest_notes(device, family))

    def test_places_bound(self):
        for device, family in drawn(204, 40, signals=2):
            stairs = class_stairs(device, family)
            for many in (0, 1, 2, 3, 4, 10 ** 18):
                bound = places_bound(device=device, family=family, many=many)
                told = stairs[min(many, len(stairs) - 1)]
                self.assertEqual(bound, device.states - len(told) + len(stairs[0]))
                if many < len(stairs):
                    self.assertLessEqual(bound, device.states - many)
            for row in rows_to(device.signals, 6):
                taken = len(places_after(device, range(device.states), row))
                self.assertLessEqual(taken, places_bound(device, family, cuts_of(family, row)))

    def test_wrong_values(self):
        calls = (sure_classes, class_numbers, class_device, fewest_notes, class_stairs, enough_rounds, out_paper, out_stairs)
        for value in any_values():
            if not isinstance(value, (list, tuple)) or len(value) == 0:
                for call in calls:
                    self.refuses(BadFamily, -1, call, LINE, value)
                self.refuses(BadFamily, -1, places_bound, LINE, value, None)
                self.refuses(BadFamily, -1, out_holds, LINE, value, None)
            if type(value) is not int or not 0 <= value <= 10 ** 18:
                self.refuses(Refused, value, places_bound, LINE, ["ab"], value)
        for call in calls:
            self.refuses(BadFamily, 1, call, LINE, ["a", "ba"])
        self.refuses(BadFamily, 1, places_bound, LINE, ["a", "a"], -1)


class OtherNamesTest(Case):
    """Points [12], [13] and [24] again: other names, signals told twice, two devices side by side."""

    def test_other_names(self):
        draw = Draw(209)
        for device, family in drawn(209, 40):
            names, signals = draw.shuffled(range(device.states)), "".join(draw.shuffled(device.signals))
            made = renamed_device(device, names)
            classes = sorted(sorted(names[state] for state in group) for group in sure_classes(device, family))
            self.assertEqual([list(group) for group in sure_classes(made, family)], classes)
            self.assertEqual(enough_rounds(made, family), enough_rounds(device, family))
            web, other = Web(device, "pairs"), Web(made, "pairs")
            for pair in pairs_of(device):
                told = tuple(sorted(names[state] for state in pair))
                self.assertEqual(other.great_lots(told), web.great_lots(pair))
            swapped = swapped_signals(device, signals)
            lots = ["".join(sorted(swapped.signals[signals.index(sign)] for sign in lot)) for lot in family]
            self.assertEqual(class_stairs(swapped, lots), class_stairs(device, family))

    def test_doubled(self):
        for device, family in drawn(210, 40):
            made = doubled_signal(device, "a")
            last = made.signals[-1]
            # what the doubled signal brings counts as the old one does
            either = family + [lot.replace("a", "") + last for lot in family if "a" in lot]
            self.assertEqual(class_stairs(made, either), class_stairs(device, family))
            self.assertEqual(chance_classes(made), chance_classes(device))

    def test_side_by_side(self):
        draw = Draw(211)
        for one, family in drawn(211, 40, states=3, signals=2):
            other = Device([draw.table(3) for _ in one.signals])
            beside = Device([[mine[at // 3] * 3 + theirs[at % 3] for at in range(one.states * 3)]
                             for mine, theirs in zip(one.tables, other.tables)])
            numbers, left, right = (class_numbers(told, family) for told in (beside, one, other))
            for at, then in pairs_of(beside):
                both = left[at // 3] == left[then // 3] and right[at % 3] == right[then % 3]
                self.assertIs(numbers[at] == numbers[then], both)


class OutTest(Case):

    def plain_holds(self, device, family, value):
        if not isinstance(value, (list, tuple)) or len(value) != 4 or value[0] != "out":
            return False
        _, state, row, again = value
        outside = outsiders(device)
        if type(state) is not int or state not in outside:
            return False
        for told in (row, again):
            if not isinstance(told, str) or len(told) > 10000 or not set(told) <= set(device.signals):
                return False
        place = end_of(device, state, row)
        return place in outside and plain_round(family, again) and end_of(device, place, again) == place

    def kept(self, device, family, state):
        """Whether a state can be kept outside: some outsider that it comes to is led to itself by a round."""
        outside = outsiders(device)

        def step(place, sign):
            goal = end_of(device, place, sign)
            return goal if goal in outside else None

        reached = [state]
        for place in reached:
            for sign in device.signals:
                if step(place, sign) not in reached + [None]:
                    reached.append(step(place, sign))
        return any(place in round_ends(device, family, [place], step) for place in reached)

    def test_papers(self):
        papers = 0
        for device, family in drawn(205, 150):
            outside = outsiders(device)
            kept = [state for state in outside if self.kept(device, family, state)]
            paper = out_paper(device=device, family=family)
            self.assertEqual(paper is None, not kept)
            if paper is not None:
                papers += 1
                self.assertEqual(paper[:2], ("out", kept[0]))
                self.assertTrue(is_tupled(paper) and self.plain_holds(device, family, paper))
                self.assertIs(out_holds(device=device, family=family, value=listed(paper)), True)
        self.assertGreater(papers, 20)

    def test_bent(self):
        draw = Draw(206)
        many = held = 0
        for device, family in drawn(206, 150):
            paper = out_paper(device, family)
            if paper is not None:
                for bent in bends(paper, draw, any_values()):
                    holds = self.plain_holds(device, family, bent)
                    many, held = many + 1, held + holds
                    self.assertIs(out_holds(device, family, bent), holds)
        self.assertGreater(many - held, 200)
        self.assertGreater(held, 50)

    def test_any_value(self):
        device = Device([(0, 0, 1, 3), (0, 1, 2, 0)])
        good = ("out", 3, "a", "a")
        self.assertTrue(out_holds(device, ["a"], good))
        self.assertFalse(out_holds(device, ["ab"], good))
        for value in any_values():
            self.assertIs(out_holds(device, ["a"], value), False)
            for at in range(4):
                bent = good[:at] + (value,) + good[at + 1:]
                self.assertIs(out_holds(device, ["a"], bent), self.plain_holds(device, ["a"], bent))
        self.assertTrue(out_holds(device, ["a"], ["out", 3, "a" * 10000, "a" * 10000]))
        self.assertFalse(out_holds(device, ["a"], ["out", 3, "a" * 10001, "a"]))
        self.assertFalse(out_holds(device, ["a"], ["out", 3, "a", "a" * 10001]))

    def test_stairs(self):
        for device, family in drawn(207, 150):
            numbers = out_stairs(device=device, family=family)
            self.assertEqual(numbers is None, out_paper(device, family) is not None)
            if numbers is not None:
                places, plain = set(outsiders(device)), []
                plain.append(len(places))
                while places:
                    ends = round_ends(device, family, places, lambda state, sign: end_of(device, state, sign))
                    places = ends & set(outsiders(device))
                    plain.append(len(places))
                self.assertEqual(numbers, tuple(plain))
                self.assertEqual(list(numbers), sorted(set(numbers), reverse=True))
                self.assertLessEqual(len(numbers) - 1, len(outsiders(device)))

    def test_edges(self):
        whole = Device([(1, 0)])
        self.assertEqual((out_paper(whole, ["a"]), out_stairs(whole, ["a"])), (None, (0,)))
        steps = Device([(0, 0, 1, 2), (0, 0, 1, 2)])
        self.assertEqual(out_stairs(steps, ["a", "b"]), (3, 2, 1, 0))
        self.assertEqual(out_stairs(steps, ["ab"]), (3, 1, 0))
        self.assertEqual(out_stairs(Device([[0]]), ["a"]), (0,))

    def test_sure_for_some_family(self):
        for device in small_devices(208, 40, signals=2):
            for pair in pairs_of(device):
                for lot in lots_of(device.signals):
                    if is_sure(device, [lot], pair):
                        self.assertIn(pair, chance_pairs(device))


if __name__ == "__main__":
    unittest.main()

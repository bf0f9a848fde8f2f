"""What mends a device: points [79] to [82]."""

import itertools
import unittest

from backinstep.beside import row_device, row_family
from backinstep.devices import Device
from backinstep.errors import BadFamily, NotYes, Refused, TooGreat
from backinstep.hours import hour_total
from backinstep.mends import (
    all_ties, cure_holds, cure_paper, cure_row, fewest_ties, fewest_turns, is_commuting_table, keeping_tables,
    least_places, more_signals, turn_bounds, turned_device,
)
from backinstep.sure import far_pairs
from backinstep.verdicts import is_yes, wrong_knots
from backinstep.webs import Web, web_districts
from tests.plain import (
    CLOCKS, Case, Draw, any_values, bends, clock, is_tupled, listed, places_after, rows_to, same, small_devices,
)
from tests.test_classes import drawn
from tests.test_notes import is_plain_row

TOLD = Device([(2, 1, 2, 3), (1, 2, 0, 2)])
STIRRED = Device([(1, 0, 2), (0, 2, 1)])


def all_tables(states):
    return list(itertools.product(range(states), repeat=states))


def then(one, other):
    return tuple(other[state] for state in one)


def wrong_tables(states):
    """Values that do not tell by state a state."""
    for value in any_values():
        for table in (value, [value] * states, [0] * (states - 1) + [value], [0] * (states + 1)):
            good = isinstance(table, (list, tuple)) and len(table) == states
            if not good or not all(type(state) is int and 0 <= state < states for state in table):
                yield table


class SignalTest(Case):

    def test_more_signals(self):
        for device in small_devices(611, 60):
            for table in all_tables(min(device.states, 3))[:20]:
                if len(table) == device.states:
                    made = more_signals(device=device, table=list(table))
                    self.assertEqual((made.tables, made.signals), (device.tables + (table,), "abcde"[:len(device.signals) + 1]))

    def test_commuting(self):
        seen = set()
        for device in small_devices(612, 60, states=3):
            for table in all_tables(device.states):
                told = all(then(table, more) == then(more, table) for more in device.tables)
                seen.add(told)
                self.assertIs(is_commuting_table(device=device, table=table), told)
        self.assertEqual(seen, {True, False})

    def test_keeping(self):
        many = 0
        for device in small_devices(613, 120, states=3) + [clock(4, 1), clock(4, 1, 2), Device([(0, 0, 1, 2)])]:
            if not is_yes(device):
                self.refuses(NotYes, wrong_knots(device)[0][1][0], keeping_tables, device)
                continue
            many += 1
            told = keeping_tables(device=device)
            plain = [table for table in all_tables(device.states) if is_yes(Device(device.tables + (table,)))]
            self.assertTrue(same(told, tuple(plain)))
            for row in rows_to(device.signals, 3):
                self.assertIn(device.effect(row), told)
            for table in all_tables(device.states):
                if all(then(table, more) == then(more, table) for more in device.tables):
                    self.assertIn(table, told)
            for table in told:
                for sign in device.signals:
                    self.assertIn(then(table, device.effect(sign)), told)
                    self.assertIn(then(device.effect(sign), table), told)
        self.assertGreater(many, 50)

    def test_refused(self):
        for table in wrong_tables(3):
            self.refuses(Refused, table, more_signals, STIRRED, table)
            self.refuses(Refused, table, is_commuting_table, STIRRED, table)
            self.refuses(Refused, table, more_signals, Device([(0, 0, 0)] * 5), table)
        self.refuses(TooGreat, 5, more_signals, Device([(0, 0, 0)] * 5), [0, 1, 2])
        self.assertEqual(more_signals(Device([(0, 0, 0)] * 4), [0, 1, 2]).signals, "abcde")
        self.refuses(NotYes, (0, 1), keeping_tables, Device([(1, 0, 2, 3, 4), (0, 2, 1, 3, 4)]))
        self.refuses(TooGreat, 4, keeping_tables, clock(5, 1))
        self.refuses(TooGreat, 4, keeping_tables, Device([(0, 0)] * 5))
        self.assertEqual(keeping_tables(Device([(0,)] * 4)), ((0,),))


class CureTest(Case):

    def plain_images(self, device):
        """The places taken behind rows, each with the first row, by a search in the order of rows."""
        firsts = {tuple(range(device.states)): ""}
        queue = list(firsts)
        for places in queue:
            for sign in device.signals:
                more = places_after(device, places, sign)
                if more not in firsts:
                    firsts[more] = firsts[places] + sign
                    queue.append(more)
        return firsts

    def test_told_example(self):
        self.assertEqual(cure_row(TOLD), "aba")

    def test_rows(self):
        seen = set()
        for device in small_devices(614, 120, states=5) + CLOCKS:
            images = self.plain_images(device)
            hours = hour_total(device)
            least = least_places(device=device)
            self.assertEqual(least, min(map(len, images)))
            self.assertGreaterEqual(least, hours)
            rows = [row for places, row in images.items() if len(places) == hours]
            row = cure_row(device=device)
            seen.add(row is None)
            self.assertEqual(row, rows[0] if rows else None)
            if row is not None:
                for other in rows_to(device.signals, min(len(row), 5)):
                    if (len(other), other) < (len(row), row):
                        self.assertGreater(len(device.places(other)), hours)
                if len(device.signals) < 5:
                    self.assertTrue(is_yes(more_signals(device, device.effect(row))))
            elif len(device.signals) < 5:
                for other in images.values():
                    self.assertFalse(is_yes(more_signals(device, device.effect(other))))
        self.assertEqual(seen, {True, False})

    def plain_holds(self, device, value):
        seq = (list, tuple)
        if not isinstance(value, seq) or len(value) != 2 or not isinstance(value[0], str):
            return False
        hours = hour_total(device)
        if value[0] == "row":
            return is_plain_row(device, value[1]) and len(device.places(value[1])) == hours
        if value[0] != "sets" or not isinstance(value[1], seq):
            return False
        sets = set()
        for states in value[1]:
            if not isinstance(states, seq) or not all(type(state) is int and 0 <= state < device.states for state in states):
                return False
            if len(set(states)) != len(states) or len(states) <= hours:
                return False
            sets.add(frozenset(states))
        images = {frozenset(places_after(device, states, sign)) for states in sets for sign in device.signals}
        return frozenset(range(device.states)) in sets and images <= sets

    def test_papers(self):
        kinds = set()
        for device in small_devices(615, 80) + CLOCKS + [STIRRED, Device([[0]])]:
            paper = cure_paper(device=device)
            kinds.add(paper[0])
            self.assertTrue(is_tupled(paper) and self.plain_holds(device, paper))
            self.assertEqual(paper[0] == "row", cure_row(device) is not None)
            self.assertIs(cure_holds(device=device, value=paper), True)
            self.assertIs(cure_holds(device, listed(paper)), True)
            if paper[0] == "sets":
                self.assertEqual(paper[1], tuple(sorted(tuple(sorted(states)) for states in paper[1])))
                turned = [list(states)[::-1] for states in paper[1][::-1]]
                self.assertIs(cure_holds(device, ["sets", turned + turned[:1]]), True)
        self.assertEqual(kinds, {"row", "sets"})

    def test_bent(self):
        draw = Draw(616)
        many = held = 0
        for device in small_devices(616, 60) + [STIRRED, Device([(1, 0, 2, 3), (1, 2, 3, 0)])] * 3:
            for bent in bends(cure_paper(device), draw, any_values()):
                holds = self.plain_holds(device, bent)
                many, held = many + 1, held + holds
                self.assertIs(cure_holds(device, bent), holds)
        self.assertGreater(held, 100)
        self.assertGreater(many - held, 500)

    def test_any_value(self):
        for value in any_values():
            for device in (STIRRED, TOLD):
                for bent in (value, ("row", value), ("sets", value), ("sets", [[0, 1, 2], value]), ("sets", [[0, 1, value]]),
                             (value, "aba")):
                    self.assertIs(cure_holds(device, bent), self.plain_holds(device, bent))
        self.assertTrue(cure_holds(STIRRED, ["sets", [(2, 0, 1)]]))
        self.assertFalse(cure_holds(STIRRED, ["sets", [(2, 0, 1), (0, 1)]]))
        self.assertFalse(cure_holds(STIRRED, ["sets", []]))
        # signals keep these sets, but some have no more states than there are hours
        self.assertEqual(hour_total(STIRRED), 1)
        self.assertFalse(cure_holds(STIRRED, ["sets", [(0, 1, 2), (0,), (1,), (2,)]]))
        self.assertTrue(cure_holds(STIRRED, ["sets", [(0, 1, 2), (0, 1), (1, 2), (0, 2)]]))
        self.assertTrue(cure_holds(TOLD, ["row", "aba" * 3333]))
        self.assertFalse(cure_holds(TOLD, ["row", "aba" * 3334]))
        self.assertTrue(cure_holds(clock(9, 1), ("row", "")))

    def test_too_great(self):
        for call in (least_places, cure_row, cure_paper):
            self.refuses(TooGreat, 8, call, clock(9, 1))
        self.assertEqual((least_places(clock(8, 1)), cure_row(clock(8, 1)), cure_paper(clock(8, 1))), (8, "", ("row", "")))


class TieTest(Case):

    def plain_ties(self, signals):
        books = set()
        for order in itertools.permutations(signals):
            for cuts in itertools.product((False, True), repeat=len(signals) - 1):
                book, row = [], order[0]
                for sign, cut in zip(order[1:], cuts):
                    if cut:
                        book, row = book + [row], sign
                    else:
                        row += sign
                books.add(tuple(sorted(book + [row])))
        return tuple(sorted(books, key=lambda book: (-len(book), book)))

    def test_ties(self):
        for signals in range(1, 6):
            device = Device([(0,)] * signals)
            self.assertTrue(same(all_ties(device=device), self.plain_ties(device.signals)))
        self.assertEqual(len(all_ties(Device([(0,)] * 5))), 501)
        self.assertEqual(all_ties(TOLD), (("a", "b"), ("ab",), ("ba",)))

    def test_fewest(self):
        sizes = set()
        self.assertEqual(fewest_ties(TOLD), ("ab",))
        for device, family in drawn(617, 100) + [(Draw(at).device(4, 4), ["abc", "d"]) for at in range(5)]:
            for told in (family, None):
                good = [book for book in self.plain_ties(device.signals)
                        if is_yes(row_device(device, book), row_family(device, book, told))]
                self.assertTrue(same(fewest_ties(device=device, family=told), good[0]))
                sizes.add((len(device.signals), len(good[0])))
                for book in good:
                    for one, other in itertools.permutations(book, 2):
                        rest = [row for row in book if row not in (one, other)]
                        self.assertIn(tuple(sorted(rest + [one + other])), good)
            self.assertEqual(fewest_ties(device), fewest_ties(device, [device.signals]))
        self.assertTrue({(1, 1), (2, 1), (2, 2), (3, 2), (3, 3)} <= sizes)

    def test_wrong_values(self):
        for value in any_values():
            if value is not None and (not isinstance(value, (list, tuple)) or len(value) == 0):
                self.refuses(BadFamily, -1, fewest_ties, TOLD, value)
        self.refuses(BadFamily, 1, fewest_ties, TOLD, ["a", "c"])


class TurnTest(Case):

    def turns_of(self, device):
        return [(state, sign, goal) for state in range(device.states) for sign in device.signals
                for goal in range(device.states) if device.step(state, sign) != goal]

    def turned(self, device, turns):
        tables = [list(table) for table in device.tables]
        for state, sign, goal in turns:
            tables["abcde".index(sign)][state] = goal
        return Device(tables)

    def test_turned(self):
        draw = Draw(618)
        for device in small_devices(618, 60):
            turns = {}
            for _ in range(draw.below(5)):
                if device.states > 1:
                    turn = draw.one_of(self.turns_of(device))
                    turns[turn[:2]] = turn
            told = draw.shuffled(turns.values())
            self.assertEqual(turned_device(device=device, turns=told), self.turned(device, told))
            self.assertEqual(turned_device(device, tuple(map(list, told))), self.turned(device, told))
            self.assertEqual(turned_device(device, []), device)

    def test_told_example(self):
        self.assertEqual(fewest_turns(TOLD, "yes", most=1000), ((0, "a", 0),))
        self.assertEqual(fewest_turns(TOLD, "together", most=1000), ((0, "b", 0),))

    def plain_fewest(self, device, wish):
        """The first tuple of fewest turns, and how many tuples come up to it."""
        rank = 0
        for many in range(device.states):
            for turns in itertools.combinations(self.turns_of(device), many):
                if len({turn[:2] for turn in turns}) == many:
                    rank += 1
                    made = self.turned(device, turns)
                    if is_yes(made) if wish == "yes" else not far_pairs(made, [made.signals]):
                        return turns, rank

    def test_fewest(self):
        lengths = {"yes": set(), "together": set()}
        for device in small_devices(619, 70, states=4, signals=2) + [Device([(0, 1, 2, 3)]), Device([(0, 1, 2)] * 2)]:
            low, high = turn_bounds(device=device)
            told = {}
            for wish in ("yes", "together"):
                plain, rank = self.plain_fewest(device, wish)
                told[wish] = len(plain)
                lengths[wish].add(len(plain))
                self.assertTrue(same(fewest_turns(device=device, wish=wish, most=max(rank, 1)), plain))
                self.assertTrue(same(fewest_turns(device, wish, most=20000), plain))
                for most in {1, rank // 2, rank - 1} - {0}:
                    try:
                        self.assertEqual(fewest_turns(device, wish, most=most), plain)
                    except TooGreat as error:
                        self.assertEqual(error.most, most)
                        self.assertGreater(rank, most)
            self.assertLessEqual(low, told["together"])
            self.assertLessEqual(told["together"], high)
            self.assertLessEqual(told["yes"], told["together"])
        self.assertTrue({0, 1} <= lengths["yes"])
        self.assertTrue({0, 1, 2, 3} <= lengths["together"])

    def test_fewest_of_neighbouring_entries(self):
        # the last goal of one entry, then the first one of the next entry
        for tables in ([(2, 3, 0, 1), (2, 0, 3, 1)], [(1, 0, 3, 2), (1, 3, 0, 2)], [(3, 2, 1, 0), (3, 0, 1, 2)]):
            device = Device(tables)
            plain, rank = self.plain_fewest(device, "together")
            self.assertEqual([turn[:2] for turn in plain], [(0, "a"), (0, "b")])
            self.assertTrue(same(fewest_turns(device, "together", most=rank), plain))

    def test_bounds(self):
        seen = set()
        for device in small_devices(620, 120, states=6) + CLOCKS + [Device([tuple(range(8))]), Device([[0]])]:
            if not far_pairs(device, [device.signals]):
                told = (0, 0)
            else:
                web = Web(device, "pairs")
                lots = [set(itertools.chain(*knot)) for knot, held in zip(web.knots, web.held) if held == device.signals]
                most = max(many for many in range(1, 5) for few in itertools.combinations(lots, many)
                           if all(not one & other for one, other in itertools.combinations(few, 2)))
                met = max(list(table).count(goal) for table in device.tables for goal in table)
                told = (max(len(web_districts(device)) - 1, most), device.states - met)
            seen.add(told)
            self.assertTrue(same(turn_bounds(device), told))
        self.assertTrue({(0, 0), (1, 1), (1, 2), (2, 2)} <= seen)
        self.assertEqual(turn_bounds(Device([tuple(range(8))])), (7, 7))
        self.assertEqual(turn_bounds(Device([(1, 0, 3, 2, 5, 4)])), (3, 5))

    def test_refused(self):
        good = (0, "a", 1)
        for value in any_values():
            for turns in (value, [value], [good, value], [(value, "a", 1)], [(0, value, 1)], [(0, "a", value)]):
                if not self.are_turns(TOLD, turns):
                    self.refuses(Refused, turns, turned_device, TOLD, turns)
            if value != "yes" and value != "together":
                self.refuses(Refused, value, fewest_turns, TOLD, value, most=1)
                self.refuses(Refused, value, fewest_turns, clock(9, 1), value, most=1)
        for turns in ([good, good], [good, (0, "a", 3)], [(0, "a", 2)], [(0, "a", 4)], [(4, "a", 0)], [(0, "c", 0)],
                      [(0, "ab", 0)], [(0, "", 0)], [(0, "a", 1, 2)], [(True, "a", 0)]):
            self.refuses(Refused, turns, turned_device, TOLD, turns)
        self.refuses(TooGreat, 8, fewest_turns, clock(9, 1), "yes", most=20000)
        self.refuses(TooGreat, 8, fewest_turns, clock(9, 1), "together", most=5)
        self.refuses(TooGreat, 8, turn_bounds, clock(9, 1))

    def are_turns(self, device, value):
        if not isinstance(value, (list, tuple)):
            return False
        for turn in value:
            if not isinstance(turn, (list, tuple)) or len(turn) != 3:
                return False
            if type(turn[0]) is not int or type(turn[2]) is not int or not isinstance(turn[1], str):
                return False
            if turn[0] not in range(4) or turn[2] not in range(4) or turn[1] not in ("a", "b"):
                return False
            if device.step(turn[0], turn[1]) == turn[2]:
                return False
        return len({tuple(turn[:2]) for turn in value}) == len(value)

    def test_too_great(self):
        still = Device([tuple(range(8))] * 3)
        self.assertEqual(fewest_turns(still, "yes", most=1), ())
        self.refuses(TooGreat, 300, fewest_turns, still, "together", most=300)
        self.assertEqual(fewest_turns(Device([[0]]), "together", most=1), ())


if __name__ == "__main__":
    unittest.main()

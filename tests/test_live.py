"""Live houses: points [90] and [91]."""

import unittest

from backinstep.classes import enough_rounds, places_bound
from backinstep.devices import Device
from backinstep.errors import BadFamily, BadRow, NoSignal, NoState, Refused
from backinstep.fates import pair_fate
from backinstep.families import least_lots
from backinstep.fleets import fleet_rows, mend_number, state_offset
from backinstep.kept import most_rounds
from backinstep.live import Live
from tests.plain import Case, Draw, any_values, clock, cuts_of, end_of, same
from tests.test_classes import drawn

LINE = Device([(0, 0, 1, 3), (0, 1, 2, 3)])


class House:
    """A plain standing of copies and log, with all earlier ones kept whole."""

    def __init__(self, device, family):
        self.now = (device, least_lots(device, family), (), "", ())
        self.past, self.ahead = [], []

    def deed(self, name, things, missed=()):
        device, family, states, log, heard = self.now
        if name == "put_copy":
            states, heard = states + things, heard + ("",)
        elif name == "tell_all":
            row = things[0]
            log += row
            heard = tuple("" if at in missed else told + row for at, told in enumerate(heard))
            states = tuple(state if at in missed else end_of(device, state, row) for at, state in enumerate(states))
        elif name == "tell_one":
            copy, row = things
            states = tuple(end_of(device, state, row) if at == copy else state for at, state in enumerate(states))
            heard = tuple("" if at == copy else told for at, told in enumerate(heard))
        elif name == "turn_entry":
            tables = [list(table) for table in device.tables]
            tables["abcde".index(things[1])][things[0]] = things[2]
            device, heard = Device(tables), ("",) * len(states)
        else:
            family, heard = least_lots(device, things[0]), ("",) * len(states)
        self.past.append(self.now)
        self.ahead = []
        self.now = (device, family, states, log, heard)

    def undo(self):
        if self.past:
            self.ahead.append(self.now)
            self.now = self.past.pop()
            return True
        return False

    def redo(self):
        if self.ahead:
            self.past.append(self.now)
            self.now = self.ahead.pop()
            return True
        return False


def drawn_deed(draw, device, family, copies):
    """The name of a deed, what is passed, and who misses it."""
    kind = draw.below(12)
    if kind < 3 and copies < 6:
        return "put_copy", (draw.below(device.states),), ()
    if kind < 7:
        return "tell_all", (draw.row(device, draw.below(5)),), tuple(
            draw.shuffled(range(copies))[:draw.below(copies + 1)]) if draw.below(3) == 0 else ()
    if kind < 9 and copies:
        return "tell_one", (draw.below(copies), draw.row(device, draw.below(3))), ()
    if kind == 9:
        return "turn_entry", (draw.below(device.states), draw.one_of(device.signals), draw.below(device.states)), ()
    if kind == 10:
        return "take_family", (draw.family(device) if draw.below(2) else list(family),), ()
    return "tell_all", (device.signals,), ()


class LiveTest(Case):

    def do(self, live, name, things, missed=()):
        if name == "tell_all" and missed:
            return live.tell_all(*things, missed=missed)
        return getattr(live, name)(*things)

    def check_standing(self, live, house):
        device, family, states, log, _ = house.now
        self.assertEqual(live.device, device)
        self.assertTrue(same((live.family, live.states, live.log), (family, states, log)))
        self.assertEqual(len(live), len(house.past))
        self.assertTrue(same(live.taken(), tuple(sorted(set(states)))))
        groups = [tuple(at for at, state in enumerate(states) if state == told) for told in dict.fromkeys(states)]
        self.assertTrue(same(live.together(), tuple(sorted(groups))))

    def check_answers(self, live, house):
        device, family, states, _, heard = house.now
        for one, here in enumerate(states):
            self.assertEqual(live.fresh_rounds(copy=one), cuts_of(family, heard[one]))
            for other, there in enumerate(states):
                self.assertEqual(live.fate(one=one, other=other), pair_fate(device, family, here, there))
                self.assertEqual(live.offset(one=one, other=other), state_offset(device, here, there))
                self.assertEqual(live.private_number(one=one, other=other), mend_number(device, family, here, there))
                pair = tuple(sorted((here, there)))
                due = -1 if here == there else most_rounds(device, family, pair)
                self.assertEqual(live.due_rounds(one=one, other=other), due)
        if states:
            self.assertEqual(live.private_rows(), fleet_rows(device, states))
            least = min(cuts_of(family, told) for told in heard)
            self.assertEqual(live.most_taken(), min(len(states), places_bound(device, family, least)))
        else:
            self.refuses(Refused, (), live.private_rows)
            self.assertEqual(live.most_taken(), 0)
        self.assertLessEqual(len(live.taken()), live.most_taken())

    def test_long_scripts(self):
        draw = Draw(681)
        back = again = 0
        for device, family in drawn(681, 30):
            live, house = Live(device=device, family=tuple(family)), House(device, family)
            for _ in range(60):
                if draw.below(4) == 0:
                    if draw.below(3):
                        back += 1
                        self.assertIs(live.undo_deed(), house.undo())
                    else:
                        again += 1
                        self.assertIs(live.redo_deed(), house.redo())
                else:
                    name, things, missed = drawn_deed(draw, house.now[0], house.now[1], len(house.now[2]))
                    told = self.do(live, name, things, missed)
                    self.assertEqual(told, len(house.now[2]) if name == "put_copy" else None)
                    house.deed(name, things, missed)
                self.check_standing(live, house)
                if draw.below(8) == 0:
                    self.check_answers(live, house)
            while house.undo():
                self.assertIs(live.undo_deed(), True)
                self.check_standing(live, house)
            self.assertIs(live.undo_deed(), False)
            while house.redo():
                self.assertIs(live.redo_deed(), True)
                self.check_standing(live, house)
            self.check_answers(live, house)
            self.assertIs(live.redo_deed(), False)
        self.assertGreater(min(back, again), 50)

    def test_begin(self):
        live = Live(LINE, ["ab", "b", "a"])
        self.assertEqual((live.device, live.family, live.states, live.log, len(live)), (LINE, ("a", "b"), (), "", 0))
        self.assertEqual((live.taken(), live.together(), live.most_taken()), ((), (), 0))
        self.assertEqual((live.undo_deed(), live.redo_deed()), (False, False))
        self.refuses(Refused, (), live.private_rows)

    def test_marks(self):
        live = Live(LINE, ["ab"])
        live.tell_all("abab")
        self.assertEqual([live.put_copy(state=2), live.put_copy(3)], [0, 1])
        self.assertEqual([live.fresh_rounds(0), live.fresh_rounds(1)], [0, 0])
        live.tell_all(row="aab", missed=[])
        live.tell_all("a")
        live.tell_all("b")
        self.assertEqual([live.fresh_rounds(0), live.fresh_rounds(1)], [2, 2])
        # an empty row that is heard or missed alone sets the mark, too
        live.tell_one(copy=0, row="")
        self.assertEqual([live.fresh_rounds(0), live.fresh_rounds(1)], [0, 2])
        live.tell_all("ab")
        live.tell_all("", missed=(1,))
        self.assertEqual([live.fresh_rounds(0), live.fresh_rounds(1)], [1, 0])
        live.tell_all("abab", missed=(0,))
        self.assertEqual([live.fresh_rounds(0), live.fresh_rounds(1), live.log], [0, 2, "ababaababababab"])
        # device and family, even to what they were
        for deed, things in ((live.turn_entry, (0, "a", 0)), (live.take_family, (["ab"],))):
            live.tell_all("ba")
            self.assertEqual(live.fresh_rounds(1) > 0, True)
            deed(*things)
            self.assertEqual([live.fresh_rounds(0), live.fresh_rounds(1), live.device], [0, 0, LINE])
            self.assertIs(live.undo_deed(), True)
            self.assertGreater(live.fresh_rounds(1), 0)
            live.redo_deed()

    def test_six_copies(self):
        live = Live(clock(6, 1), ["a"])
        for state in range(6):
            self.assertEqual(live.put_copy(state), state)
        self.assertEqual(live.most_taken(), 6)
        self.assertEqual(live.private_rows(), fleet_rows(clock(6, 1), tuple(range(6))))
        live.tell_all("a", missed=(5, 0))
        self.assertEqual(live.states, (0, 2, 3, 4, 5, 5))
        self.assertEqual((live.taken(), live.together()), ((0, 2, 3, 4, 5), ((0,), (1,), (2,), (3,), (4, 5))))
        self.assertEqual((live.due_rounds(4, 5), live.due_rounds(0, 1), live.due_rounds(3, 3)), (-1, None, -1))

    def test_what_holds(self):
        draw = Draw(682)
        met = 0
        for device, family in drawn(682, 60):
            live = Live(device, family)
            for state in range(device.states):
                live.put_copy(state)
            enough = enough_rounds(device, family)
            for _ in range(4):
                live.tell_all(draw.row(device, draw.below(6)))
                live.tell_one(draw.below(device.states), draw.row(device, 2))
                sure = [(one, other) for one in range(device.states) for other in range(device.states)
                        if live.fate(one, other) in ("one", "sure")]
                while any(live.fresh_rounds(copy) < enough for copy in range(device.states)):
                    live.tell_all(draw.row(device, 3))
                    self.assertLessEqual(len(live.taken()), live.most_taken())
                for one, other in sure:
                    met += 1
                    self.assertEqual(live.states[one], live.states[other])
        self.assertGreater(met, 500)

    def test_a_new_deed_forgets(self):
        live = Live(LINE, ["ab"])
        live.put_copy(1)
        live.tell_all("a")
        live.undo_deed()
        live.tell_all("")
        self.assertEqual((live.redo_deed(), len(live), live.log), (False, 2, ""))
        # what is refused forgets nothing
        live.undo_deed()
        self.refuses(BadRow, -1, live.tell_all, None)
        self.refuses(NoState, 9, live.put_copy, 9)
        self.assertIs(live.redo_deed(), True)

    def test_within(self):
        draw = Draw(683)
        for device, family in drawn(683, 25):
            live, house = Live(device, family), House(device, family)
            for at in range(25):
                if draw.below(3) == 0:
                    live.undo_deed()
                    house.undo()
                else:
                    name, things, missed = drawn_deed(draw, house.now[0], house.now[1], len(house.now[2]))
                    self.do(live, name, things, missed)
                    house.deed(name, things, missed)
                seed, fails = draw.below(10 ** 6), draw.below(2)
                told = self.outcome(live.within, lambda given: self.work(live, given, seed, fails, 2))
                if fails:
                    self.assertEqual(told, (Refused, [seed]))
                else:
                    self.assertEqual(told, seed)
                self.check_standing(live, house)
            self.check_answers(live, house)
            ahead = len(house.ahead)
            for _ in range(ahead):
                self.assertIs(live.redo_deed(), house.redo())
                self.check_standing(live, house)
            self.assertIs(live.redo_deed(), False)

    def work(self, live, given, seed, fails, deep):
        """Deeds of all kinds, some taken back, some within one another."""
        self.assertIs(given, live)
        draw = Draw(seed)
        for _ in range(draw.below(6)):
            kind = draw.below(5)
            if kind == 0:
                live.undo_deed()
            elif kind == 1:
                live.redo_deed()
            elif kind == 2 and deep:
                before = (live.device, live.family, live.states, live.log, len(live))
                self.outcome(live.within, lambda more: self.work(live, more, seed + deep, draw.below(2), deep - 1))
                self.assertEqual((live.device, live.family, live.states, live.log, len(live)), before)
            else:
                name, things, missed = drawn_deed(draw, live.device, live.family, len(live.states))
                self.do(live, name, things, missed)
        if fails:
            raise Refused(seed)
        return seed

    def test_within_passes_on(self):
        live = Live(LINE, ["ab"])
        live.put_copy(1)
        live.undo_deed()
        thing = object()
        self.assertIs(live.within(work=lambda given: thing), thing)
        self.assertIsNone(live.within(lambda given: given.take_family(["a"])))
        for error in (KeyError("x"), ZeroDivisionError(), StopIteration(), KeyboardInterrupt()):
            def work(given):
                given.put_copy(0)
                given.take_family(["a"])
                raise error
            with self.assertRaises(type(error)) as caught:
                live.within(work)
            self.assertIs(caught.exception, error)
            self.assertEqual((live.states, live.family, len(live)), ((), ("ab",), 0))
        self.assertIs(live.redo_deed(), True)
        self.assertEqual(live.states, (1,))

    def test_wrong_values(self):
        for value in any_values():
            if not isinstance(value, (list, tuple)) or len(value) == 0:
                self.refuses(BadFamily, -1, Live, LINE, value)
        self.refuses(BadFamily, 1, Live, LINE, ["a", "c"])
        live = Live(LINE, ["ab"])
        for state in (2, 3, 1):
            live.put_copy(state)
        live.tell_all("ab")
        live.undo_deed()
        house = House(LINE, ["ab"])
        for state in (2, 3, 1):
            house.deed("put_copy", (state,))
        house.deed("tell_all", ("ab",))
        house.undo()
        for value in any_values():
            state = type(value) is int and 0 <= value < 4
            copy = type(value) is int and 0 <= value < 3
            if not state:
                self.refuses(NoState, value, live.put_copy, value)
                self.refuses(NoState, value, live.turn_entry, value, None, None)
                self.refuses(NoState, value, live.turn_entry, 0, "b", value)
            if value not in ("a", "b"):
                self.refuses(NoSignal, value, live.turn_entry, 0, value, None)
            if not isinstance(value, str):
                self.refuses(BadRow, -1, live.tell_all, value, missed=value)
                self.refuses(BadRow, -1, live.tell_one, 2, value)
            for missed in (value, [value], (0, value), [0, 0], (3,), [-1], (True,)):
                good = isinstance(missed, (list, tuple)) and all(type(at) is int and 0 <= at < 3 for at in missed)
                if not good or len(set(missed)) < len(missed):
                    self.refuses(Refused, missed, live.tell_all, "ab", missed=missed)
            if not copy:
                self.refuses(Refused, value, live.tell_one, value, None)
                self.refuses(Refused, value, live.fresh_rounds, value)
                for call in (live.fate, live.offset, live.private_number, live.due_rounds):
                    self.refuses(Refused, value, call, value, None)
                    self.refuses(Refused, value, call, 2, value)
            if not isinstance(value, (list, tuple)) or len(value) == 0:
                self.refuses(BadFamily, -1, live.take_family, value)
        for copy in (3, 4, -3, 10 ** 18):
            self.refuses(Refused, copy, live.tell_one, copy, "a")
            self.refuses(Refused, copy, live.fresh_rounds, copy)
            for call in (live.fate, live.offset, live.private_number, live.due_rounds):
                self.refuses(Refused, copy, call, copy, 0)
                self.refuses(Refused, copy, call, 0, copy)
            self.refuses(Refused, (0, copy), live.tell_all, "a", missed=(0, copy))
        self.refuses(BadRow, 1, live.tell_all, "az", missed=None)
        self.refuses(BadRow, 10000, live.tell_one, 0, "a" * 10001)
        self.refuses(BadFamily, 0, live.take_family, ["ba"])
        self.check_standing(live, house)
        self.assertIs(live.redo_deed(), house.redo())
        self.check_standing(live, house)

    def test_a_long_log(self):
        live = Live(LINE, ["ab"])
        live.put_copy(2)
        for _ in range(100):
            live.tell_all("ab" * 50)
        self.assertEqual((len(live.log), live.fresh_rounds(0), live.states), (10000, 5000, (0,)))
        live.tell_one(0, "b")
        live.tell_all("ab" * 50)
        self.assertEqual((len(live.log), live.fresh_rounds(0)), (10100, 50))


if __name__ == "__main__":
    unittest.main()

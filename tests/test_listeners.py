"""Listeners: point [70]."""

import itertools
import unittest

from backinstep.classes import sure_classes
from backinstep.devices import Device
from backinstep.errors import BadFamily, BadRow, NoState, Refused
from backinstep.late import lasting_classes, lasting_states
from backinstep.listeners import Listener, least_listener, listener_rounds, misled_holds, misled_paper
from tests.plain import Case, Draw, any_values, bends, end_of, is_tupled, listed, plain_round, rows_to, same
from tests.test_classes import drawn
from tests.test_notes import is_plain_row

LINE = Device([(0, 0, 1), (0, 1, 2)])


def memory_of(listener, memory, row):
    for sign in row:
        memory = listener.moves["abcde".index(sign)][memory]
    return memory


def plain_listener_rounds(device, family, listener):
    """The least t by a search that counts cuts, None if more come than there are places."""
    most = device.states * len(listener.says) * 2 ** len(device.signals) + 1
    queue = [(state, listener.starts[state], frozenset(), 0) for state in range(device.states)]
    seen = set(queue)
    worst = -1
    for state, memory, given, cuts in queue:
        if listener.says[memory] != state:
            worst = max(worst, cuts)
            if cuts >= most:
                return None
        for at, sign in enumerate(device.signals):
            more, count = given | {sign}, cuts
            if plain_round(family, more):
                more, count = frozenset(), min(cuts + 1, most)
            node = (device.tables[at][state], listener.moves[at][memory], more, count)
            if node not in seen:
                seen.add(node)
                queue.append(node)
    return worst + 1


def drawn_listener(draw, device, many):
    says = [draw.below(device.states) for _ in range(many)]
    moves = [[draw.below(many) for _ in range(many)] for _ in device.signals]
    return Listener(device, says, moves, [draw.below(many) for _ in range(device.states)])


def bent_listener(draw, listener):
    """The listener with one of its numbers changed."""
    says, moves, starts = list(listener.says), [list(table) for table in listener.moves], list(listener.starts)
    line = draw.one_of([says, starts] + moves)
    line[draw.below(len(line))] = draw.below(listener.device.states if line is says else len(says))
    return Listener(listener.device, says, moves, starts)


def listeners(seed, many):
    draw = Draw(seed)
    for device, family in drawn(seed, many, states=3, signals=2):
        least = least_listener(device, family)
        yield device, family, least
        yield device, family, bent_listener(draw, least)
        yield device, family, bent_listener(draw, bent_listener(draw, least))
        yield device, family, drawn_listener(draw, device, 1 + draw.below(3))
        yield device, family, Listener(device, range_of(device), device.tables, range_of(device))


def range_of(device):
    return list(range(device.states))


class ListenerTest(Case):

    def test_told_example(self):
        least = least_listener(LINE, ["ab"])
        self.assertEqual((least.starts, listener_rounds(LINE, ["ab"], least)), ((0, 0, 0), 2))

    def test_attributes(self):
        draw = Draw(521)
        for device, _ in drawn(521, 30):
            many = 1 + draw.below(5)
            says = [draw.below(device.states) for _ in range(many)]
            moves = [[draw.below(many) for _ in range(many)] for _ in device.signals]
            starts = [draw.below(many) for _ in range(device.states)]
            listener = Listener(device=device, says=says, moves=moves, starts=starts)
            told = (tuple(says), tuple(map(tuple, moves)), tuple(starts))
            self.assertTrue(same((listener.says, listener.moves, listener.starts), told))
            self.assertEqual(listener.device, device)
            self.assertTrue(listener == Listener(device, *told))
            for row in list(rows_to(device.signals, 3)) + [draw.row(device, 50)]:
                for state in range(device.states):
                    memory = memory_of(listener, starts[state], row)
                    self.assertEqual(listener.memory_after(state=state, row=row), memory)
                    self.assertEqual(listener.place_said(state=state, row=row), says[memory])
            says[0] = moves[0][0] = starts[0] = 99
            self.assertTrue(same((listener.says, listener.moves, listener.starts), told))

    def test_equality(self):
        one = Listener(LINE, [0, 1], [[0, 1], [0, 1]], [0, 0, 1])
        self.assertTrue(one == Listener(Device([[0, 0, 1], [0, 1, 2]]), (0, 1), ((0, 1), (0, 1)), (0, 0, 1)))
        for other in (Listener(Device([(0, 0, 1), (0, 1, 1)]), [0, 1], [[0, 1], [0, 1]], [0, 0, 1]),
                      Listener(LINE, [0, 2], [[0, 1], [0, 1]], [0, 0, 1]),
                      Listener(LINE, [0, 1], [[0, 1], [1, 1]], [0, 0, 1]),
                      Listener(LINE, [0, 1], [[0, 1], [0, 1]], [0, 1, 1]), LINE, None, (0, 1)):
            self.assertFalse(one == other)
            self.assertTrue(one != other)

    def test_rounds(self):
        seen = set()
        for device, family, listener in listeners(522, 60):
            told = plain_listener_rounds(device, family, listener)
            seen.add(told)
            self.assertEqual(listener_rounds(device=device, family=tuple(family), listener=listener), told)
            paper = misled_paper(device=device, family=family, listener=listener)
            self.assertEqual(paper is None, told is not None)
        self.assertTrue({None, 0, 1, 2} <= seen)

    def test_least(self):
        for device, family in drawn(523, 80):
            least = least_listener(device=device, family=family)
            lasting, classes = lasting_states(device, family), sure_classes(device, family)
            rest = [group for group in classes if not set(group) & set(lasting)]
            self.assertEqual(least.says, lasting + tuple(group[0] for group in rest))
            held = len(lasting_classes(device, family))
            self.assertEqual(len(least.says), len(lasting) + len(classes) - held)
            homes = {}
            for group in classes:
                inside = sorted(set(group) & set(lasting))
                for state in group:
                    homes[state] = lasting.index(inside[0]) if inside else len(lasting) + rest.index(group)
            self.assertEqual(least.starts, tuple(homes[state] for state in range(device.states)))
            for at, table in enumerate(device.tables):
                moves = [lasting.index(table[state]) for state in lasting] + [homes[table[group[0]]] for group in rest]
                self.assertEqual(least.moves[at], tuple(moves))
            rounds = listener_rounds(device, family, least)
            self.assertIsNotNone(rounds)
            self.assertLessEqual(rounds, device.states - held)

    def test_every_listener_with_fewer_memories_is_misled(self):
        many = 0
        for device, family in drawn(524, 60, states=3, signals=2):
            for fewer in range(1, len(least_listener(device, family).says)):
                if fewer == 1 or fewer == 2 and device.states < 4:
                    for listener in self.all_listeners(device, fewer):
                        many += 1
                        self.assertIsNotNone(misled_paper(device, family, listener))
        self.assertGreater(many, 1000)

    def all_listeners(self, device, many):
        memories = range(many)
        for says in itertools.product(range(device.states), repeat=many):
            for table in itertools.product(itertools.product(memories, repeat=many), repeat=len(device.signals)):
                for starts in itertools.product(memories, repeat=device.states):
                    yield Listener(device, says, table, starts)

    def plain_holds(self, device, family, listener, value):
        if not isinstance(value, (list, tuple)) or len(value) != 5 or not isinstance(value[0], str) or value[0] != "misled":
            return False
        _, state, row, again, more = value
        if type(state) is not int or not 0 <= state < device.states:
            return False
        if not all(is_plain_row(device, part) for part in (row, again, more)) or not plain_round(family, again):
            return False
        memory = memory_of(listener, listener.starts[state], row)
        place = end_of(device, state, row)
        if end_of(device, place, again) != place or memory_of(listener, memory, again) != memory:
            return False
        return listener.says[memory_of(listener, memory, more)] != end_of(device, place, more)

    def test_papers(self):
        many = 0
        for device, family, listener in listeners(525, 60):
            paper = misled_paper(device, family, listener)
            if paper is not None:
                many += 1
                self.assertTrue(is_tupled(paper) and self.plain_holds(device, family, listener, paper))
                self.assertIs(misled_holds(device=device, family=family, listener=listener, value=paper), True)
                self.assertIs(misled_holds(device, family, listener, listed(paper)), True)
        self.assertGreater(many, 60)

    def test_bent(self):
        draw = Draw(526)
        many = held = 0
        for device, family, listener in listeners(526, 25):
            paper = misled_paper(device, family, listener) or ("misled", 0, "", device.signals, "a")
            for bent in bends(paper, draw, any_values()):
                holds = self.plain_holds(device, family, listener, bent)
                many, held = many + 1, held + holds
                self.assertIs(misled_holds(device, family, listener, bent), holds)
                self.assertFalse(holds and listener_rounds(device, family, listener) is not None)
        self.assertGreater(held, 100)
        self.assertGreater(many - held, 1000)

    def test_many_memories(self):
        # a listener that counts to sixty and then forgets
        device = Device([(1, 0), (0, 1)])
        sixty = [list(range(1, 60)) + [0], list(range(60))]
        listener = Listener(device, [memory % 2 for memory in range(60)], sixty, [0, 1])
        self.assertEqual(listener_rounds(device, ["ab"], listener), 0)
        wrong = Listener(device, [memory % 2 for memory in range(59)] + [0], sixty, [0, 1])
        self.assertIsNone(listener_rounds(device, ["ab"], wrong))
        self.assertTrue(misled_holds(device, ["ab"], wrong, misled_paper(device, ["ab"], wrong)))

    def test_a_class_of_several_states_and_none_lasting(self):
        device = Device([(3, 3, 3, 3, 4), (4, 4, 4, 3, 4)])
        self.assertEqual((sure_classes(device, ["ab"]), lasting_states(device, ["ab"])), (((0, 1, 2), (3,), (4,)), (3, 4)))
        told = least_listener(device, ["ab"])
        self.assertEqual((told.says, told.moves, told.starts), ((3, 4, 0), ((0, 1, 0), (0, 1, 1)), (2, 2, 2, 0, 1)))
        self.assertEqual(listener_rounds(device, ["ab"], told), 1)

    def test_edges(self):
        one = Device([[0]])
        lone = Listener(one, [0], [[0]], [0])
        self.assertEqual((listener_rounds(one, ["a"], lone), misled_paper(one, ["a"], lone)), (0, None))
        self.assertTrue(least_listener(one, ["a"]) == lone)
        self.assertEqual((lone.memory_after(0, "a" * 10000), lone.place_said(0, "")), (0, 0))
        always = Listener(LINE, [0], [[0], [0]], [0, 0, 0])
        self.assertEqual(listener_rounds(LINE, ["ab"], always), 2)
        self.assertEqual(listener_rounds(LINE, ["ab"], Listener(LINE, [1], [[0], [0]], [0, 0, 0])), None)

    def are_numbers(self, value, many, is_good):
        """Whether a value is a sequence of so many good things, none of them a bool."""
        if not isinstance(value, (list, tuple)) or len(value) != many:
            return False
        return all(type(item) in (int, list, tuple) and is_good(item) for item in value)

    def test_wrong_values(self):
        good = ([0, 1], [[0, 1], [1, 1]], [0, 1, 0])
        for value in any_values():
            for says in (value, [value], [0] * 61, [3], [0, -1], []):
                states = isinstance(says, (list, tuple)) and 1 <= len(says) <= 60
                if not states or not all(type(state) is int and 0 <= state < 3 for state in says):
                    self.refuses(Refused, says, Listener, LINE, says, None, None)
            for moves in (value, [value] * 2, [[0, value], [1, 1]], [[0, 1]], [[0, 1]] * 3, [[0, 1], [0, 2]], [[0, 1], [0]]):
                if not self.are_numbers(moves, 2, lambda table: self.are_numbers(table, 2, lambda memory: memory in (0, 1))):
                    self.refuses(Refused, moves, Listener, LINE, good[0], moves, None)
            for starts in (value, [0, 1, value], [0, 1], [0, 1, 0, 1], [0, 1, 2]):
                if not self.are_numbers(starts, 3, lambda memory: memory in (0, 1)):
                    self.refuses(Refused, starts, Listener, LINE, good[0], good[1], starts)
        listener = Listener(LINE, *good)
        for value in any_values():
            if type(value) is not int or not 0 <= value < 3:
                self.refuses(NoState, value, listener.memory_after, value, None)
                self.refuses(NoState, value, listener.place_said, value, None)
            if not isinstance(value, str):
                self.refuses(BadRow, -1, listener.memory_after, 0, value)
                self.refuses(BadRow, -1, listener.place_said, 0, value)
        self.refuses(BadRow, 1, listener.place_said, 2, "az")
        self.refuses(BadRow, 10000, listener.memory_after, 2, "a" * 10001)

    def test_no_listener_of_an_equal_device(self):
        other = Listener(Device([(0, 0, 1), (0, 1, 1)]), [0, 1], [[0, 1], [1, 1]], [0, 1, 0])
        for value in any_values() + [other]:
            self.refuses(Refused, value, listener_rounds, LINE, ["ab"], value)
            self.refuses(Refused, value, misled_paper, LINE, ["ab"], value)
            self.refuses(Refused, value, misled_holds, LINE, ["ab"], value, None)
            if not isinstance(value, (list, tuple)) or len(value) == 0:
                for call in (listener_rounds, misled_paper):
                    self.refuses(BadFamily, -1, call, LINE, value, None)
                self.refuses(BadFamily, -1, misled_holds, LINE, value, None, None)
                if value is not other:
                    self.refuses(BadFamily, -1, least_listener, LINE, value)
        equal = Listener(Device([[0, 0, 1], [0, 1, 2]]), [0, 1], [[0, 1], [1, 1]], [0, 1, 0])
        for value in any_values():
            for bent in (value, ("misled", value, "", "ab", ""), ("misled", 1, value, "ab", "a"), ("misled", 1, "", value, "a"),
                         ("misled", 1, "", "ab", value)):
                self.assertIs(misled_holds(LINE, ["ab"], equal, bent), self.plain_holds(LINE, ["ab"], equal, bent))
        self.refuses(BadFamily, 1, listener_rounds, LINE, ["a", "a"], None)


if __name__ == "__main__":
    unittest.main()

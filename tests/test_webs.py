"""Webs, knots, what can be kept up for ever: points [11] and [12]."""

import itertools
import unittest

from backinstep.devices import Device
from backinstep.errors import BadRow, NoPair, NoState, Refused
from backinstep.webs import Web, district_of, outsiders, web_districts
from tests.plain import Case, Draw, any_values, end_of, is_tupled, lots_of, pair_end, rows_to, small_devices

WIDE = Draw(31).device(60, 5)
# in the last one a signal that a knot holds leads some of its nodes out of it
EDGES = [
    Device([[0]]), Device([[0]] * 5), Device([[0, 1]]), Device([[1, 0], [1, 1]]),
    Device([(3, 0, 2, 2), (1, 0, 3, 2)]),
]


def plain_nodes(device, kind):
    states = range(device.states)
    return list(states) if kind == "states" else list(itertools.combinations(states, 2))


def plain_after(device, node, row):
    return pair_end(device, node, row) if isinstance(node, tuple) else end_of(device, node, row)


def plain_reached(device, node, signals):
    """By node the first row that leads a node to it by some signals, by looking at all rows in their order."""
    rows = {node: ""}
    level = [node]
    while level:
        ahead = [(rows[place] + sign, plain_after(device, place, sign)) for place in level for sign in signals]
        level = []
        for row, goal in sorted(ahead, key=lambda step: step[0]):
            if goal is not None and goal not in rows:
                rows[goal] = row
                level.append(goal)
    return rows


def plain_knots(device, kind):
    """The knots by the words of the document."""
    nodes = plain_nodes(device, kind)
    reached = {node: plain_reached(device, node, device.signals) for node in nodes}
    left = sorted({tuple(sorted(other for other in nodes if other in reached[node] and node in reached[other]))
                   for node in nodes})
    knots = []
    while left:
        done = [node for knot in knots for node in knot]
        ready = [knot for knot in left if all(goal in done or goal in knot for node in knot for goal in reached[node])]
        knots.append(min(ready))
        left.remove(knots[-1])
    return tuple(knots)


def plain_held(device, knot):
    return "".join(s for s in device.signals if any(plain_after(device, node, s) in knot for node in knot))


def lots_kept(device, node):
    """All lots, the empty one too, that some endless row gives again and again while the node stays in the web."""
    lots = set()
    for place in plain_reached(device, node, device.signals):
        seen = {(place, "")}
        queue = [(place, "")]
        for here, given in queue:
            for sign in device.signals:
                goal = plain_after(device, here, sign)
                more = (goal, "".join(sorted(set(given + sign))))
                if goal is not None and more not in seen:
                    seen.add(more)
                    queue.append(more)
                if goal == place:
                    lots.add(more[1])
    return {lot for great in lots for lot in [""] + lots_of(great)}


class WebTest(Case):

    def test_told_example(self):
        device = Device([(1, 2, 0, 0), (0, 1, 2, 1)])
        web = Web(device, "pairs")
        self.assertEqual(web_districts(device), ((0, 1, 2),))
        told = (((0, 1), (0, 2), (1, 2)), ((0, 3),), ((1, 3),), ((2, 3),))
        self.assertEqual((web.knots, web.held, web.great_lots((0, 3))), (told, ("ab", "", "", ""), ("ab",)))
        self.assertEqual((web.kind, web.device), ("pairs", device))

    def test_nodes_and_knots(self):
        for device in EDGES + small_devices(32, 60, states=5):
            for kind in ("states", "pairs"):
                web = Web(device, kind)
                self.assertEqual(web.nodes, tuple(plain_nodes(device, kind)))
                self.assertEqual(web.knots, plain_knots(device, kind))
                self.assertEqual(web.held, tuple(plain_held(device, knot) for knot in web.knots))
                for node in web.nodes:
                    self.assertIn(node, web.knots[web.knot_of(node)])
                self.assertTrue(is_tupled((web.nodes, web.knots, web.held)))

    def test_reach(self):
        for device in EDGES + small_devices(33, 40):
            for kind in ("states", "pairs"):
                web = Web(device=device, kind=kind)
                for node in web.nodes:
                    rows = plain_reached(device, node, device.signals)
                    self.assertEqual(web.reached(node), tuple(sorted(rows)))
                    for goal in web.nodes:
                        self.assertEqual(web.first_row(node=node, goal=goal), rows.get(goal))

    def test_first_rows_by_all_rows(self):
        for device in small_devices(34, 15, states=3, signals=2):
            web = Web(device, "pairs")
            for node, goal in itertools.product(web.nodes, repeat=2):
                rows = [row for row in rows_to(device.signals, 4) if plain_after(device, node, row) == goal]
                # a row of the web never comes back from one state
                self.assertEqual(web.first_row(node, goal), rows[0] if rows else None)

    def test_node_after(self):
        draw = Draw(35)
        for device in small_devices(35, 30):
            for kind in ("states", "pairs"):
                web = Web(device, kind)
                for node in web.nodes:
                    for length in range(5):
                        row = draw.row(device, length)
                        self.assertEqual(web.node_after(node, row), plain_after(device, node, row))
        clock = Web(Device([(1, 2, 0), (0, 0, 2)]), "pairs")
        self.assertEqual(clock.node_after((0, 2), row="a" * 9999), (0, 2))
        self.assertIsNone(clock.node_after((0, 1), "b" + "a" * 9999))

    def test_districts(self):
        for device in EDGES + small_devices(36, 60, states=6):
            reached = [set(plain_reached(device, state, device.signals)) for state in range(device.states)]
            closed = {tuple(sorted(lot)) for lot in reached if all(reached[state] == lot for state in lot)}
            self.assertEqual(web_districts(device), tuple(sorted(closed)))
            outside = [s for s in range(device.states) if not any(s in lot for lot in closed)]
            self.assertEqual(outsiders(device), tuple(outside))
            for state in range(device.states):
                numbers = [at for at, lot in enumerate(sorted(closed)) if state in lot]
                self.assertEqual(district_of(device, state), numbers[0] if numbers else None)

    def test_wide_devices(self):
        web = Web(WIDE, "pairs")
        self.assertEqual(len(web.nodes), 1770)
        for number, knot in enumerate(web.knots):
            for node in knot:
                for sign in WIDE.signals:
                    goal = web.node_after(node, sign)
                    self.assertTrue(goal is None or web.knot_of(goal) <= number)
        line = Web(Device([[max(0, state - 1) for state in range(60)]] * 5), "pairs")
        self.assertEqual((len(line.knots), set(line.held)), (1770, {""}))
        self.assertEqual(line.first_row((58, 59), (0, 1)), "a" * 58)

    def test_wrong_kinds(self):
        for value in any_values():
            if value != "states":
                self.refuses(Refused, value, Web, WIDE, value)

    def test_wrong_nodes(self):
        device = Device([(1, 2, 0), (0, 0, 2)])
        states, pairs = Web(device, "states"), Web(device, "pairs")
        for value in any_values() + [[0, 1], (1, 2), (0, True), (1, 3)]:
            no_state = type(value) is not int or not 0 <= value < 3
            no_pair = not isinstance(value, tuple) or value not in ((0, 1), (0, 2), (1, 2)) or any(
                type(state) is not int for state in value)
            for web, error, wrong, node in ((states, NoState, no_state, 0), (pairs, NoPair, no_pair, (0, 1))):
                if wrong:
                    self.refuses(error, value, web.node_after, value, None)
                    self.refuses(error, value, web.knot_of, value)
                    self.refuses(error, value, web.reached, value)
                    self.refuses(error, value, web.first_row, value, None)
                    self.refuses(error, value, web.first_row, node, value)
                    self.refuses(error, value, web.great_lots, value)
                    self.refuses(error, value, web.keeps, value, None)
                    self.refuses(error, value, web.keep_rows, value, None)
                    self.refuses(error, value, web.just_lots, value)
            if no_state:
                self.refuses(NoState, value, district_of, device, value)
        self.refuses(NoPair, (0, 0), Web(Device([[0]]), "pairs").knot_of, (0, 0))

    def test_wrong_rows(self):
        web = Web(Device([(1, 2, 0), (0, 0, 2)]), "states")
        self.refuses(BadRow, -1, web.node_after, 0, ["a"])
        self.refuses(BadRow, 2, web.node_after, 0, "abc")
        self.refuses(BadRow, 10000, web.node_after, 0, "a" * 10001)

    def test_one_state(self):
        web = Web(Device([[0]]), "pairs")
        self.assertEqual((web.nodes, web.knots, web.held), ((), (), ()))
        states = Web(Device([[0]]), "states")
        self.assertEqual((states.knots, states.held, states.great_lots(0)), (((0,),), ("a",), ("a",)))


class KeepTest(Case):

    def check_rows(self, web, node, lot):
        row, closed = web.keep_rows(node, lot)
        place = web.node_after(node, row)
        self.assertIsNotNone(place)
        self.assertEqual(web.node_after(place, closed), place)
        self.assertTrue(closed != "" and set(lot) <= set(closed))

    def test_all_lots(self):
        for device in EDGES + small_devices(37, 250):
            for kind in ("states", "pairs"):
                web = Web(device, kind)
                for node in web.nodes:
                    kept = lots_kept(device, node)
                    great = {lot for lot in kept if lot and not any(set(lot) < set(other) for other in kept)}
                    self.assertEqual(web.great_lots(node), tuple(sorted(great)))
                    for lot in [""] + lots_of(device.signals):
                        self.assertEqual(web.keeps(node=node, lot=lot), lot in kept)
                        if lot in kept:
                            self.check_rows(web, node, lot)
                        else:
                            self.assertIsNone(web.keep_rows(node=node, lot=lot))

    def test_just_lots(self):
        for device in EDGES + small_devices(38, 120):
            for kind in ("states", "pairs"):
                web = Web(device, kind)
                for node in web.nodes:
                    just = []
                    for lot in lots_of(device.signals):
                        few = Device([device.tables["abcde".index(sign)] for sign in lot])
                        whole = "abcde"[:len(lot)]
                        if any(whole in lots_kept(few, place) for place in web.reached(node)):
                            just.append(lot)
                    self.assertEqual(web.just_lots(node), tuple(just))

    def test_wide(self):
        for device in (WIDE, Draw(39).clocked(60, 5)):
            web = Web(device, "pairs")
            for node in ((0, 1), (17, 42), (58, 59)):
                for lot in lots_of("abcde"):
                    if web.keeps(node, lot):
                        self.check_rows(web, node, lot)
                self.assertTrue(set(web.just_lots(node)) <= {lot for lot in lots_of("abcde") if web.keeps(node, lot)})

    def test_wrong_lots(self):
        web = Web(Device([(1, 2, 0), (0, 0, 2)]), "states")
        for value in any_values() + ["ba", "abc", "c"]:
            if not isinstance(value, str) or value not in ("", "a", "b", "ab"):
                self.refuses(Refused, value, web.keeps, 0, value)
                self.refuses(Refused, value, web.keep_rows, 0, value)


if __name__ == "__main__":
    unittest.main()

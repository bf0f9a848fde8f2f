"""Webs of states or pairs: what leads where, and what can be kept up for ever."""

from heapq import heapify, heappop, heappush

from backinstep.basics import all_lots, check_pair, check_row, check_state, is_lot, lies_in
from backinstep.devices import signal_tables
from backinstep.errors import Refused


class Web:
    """The states or the pairs of a device, and how its signals lead them to one another."""

    def __init__(self, device, kind):
        if kind != "states" and kind != "pairs":
            raise Refused(kind)
        self.device = device
        self.kind = kind
        # by node its steps within the web, as (signal, next node)
        self.moves = state_moves(device) if kind == "states" else pair_moves(device)
        self.nodes = tuple(self.moves)
        self.knots = numbered_knots(self.moves)
        self.numbers = {node: number for number, knot in enumerate(self.knots) for node in knot}
        self.held = tuple([self.held_in(number) for number in range(len(self.knots))])
        self.greatest = self.great_by_knot()

    def held_in(self, number):
        """The lot that a knot holds."""
        return held_lot(part_moves(self.moves, self.knots[number]))

    def great_by_knot(self):
        """By knot the great lots of its nodes."""
        greatest = []
        for number, knot in enumerate(self.knots):
            lots = {self.held[number]: True}
            for node in knot:
                for _, goal in self.moves[node]:
                    # a step out leads to a lower number, so what can be held there is told already
                    if self.numbers[goal] < number:
                        for lot in greatest[self.numbers[goal]]:
                            lots[lot] = True
            greatest.append(outer_lots(list(lots)))
        return tuple(greatest)

    def check_node(self, node):
        """Raise NoState or NoPair for any value that is no node."""
        if self.kind == "states":
            check_state(self.device, node)
        else:
            check_pair(self.device, node)

    def check_lot(self, lot):
        """Raise Refused for any value that is no lot."""
        if not is_lot(self.device, lot):
            raise Refused(lot)

    def node_after(self, node, row):
        """The node behind a row, None if the row leads it out of the web."""
        self.check_node(node)
        check_row(self.device, row)
        for sign in row:
            goals = [goal for move, goal in self.moves[node] if move == sign]
            if not goals:
                return None
            node = goals[0]
        return node

    def knot_of(self, node):
        """The number of a node's knot."""
        self.check_node(node)
        return self.numbers[node]

    def rows_from(self, node):
        """By node that rows lead a node to the first of these rows, in their order."""
        return first_rows(node, lambda place: self.moves[place])

    def reached(self, node):
        """The nodes that rows lead a node to, ascending, itself too."""
        self.check_node(node)
        return tuple(sorted(list(self.rows_from(node))))

    def first_row(self, node, goal):
        """The first row that leads a node to another one, or None."""
        self.check_node(node)
        self.check_node(goal)
        return self.rows_from(node).get(goal)

    def great_lots(self, node):
        """The greatest lots that can be given again and again while the node stays in the web."""
        self.check_node(node)
        return self.greatest[self.numbers[node]]

    def keeps(self, node, lot):
        """Whether some endless row keeps a node in the web and gives each signal of a lot again and again."""
        self.check_node(node)
        self.check_lot(lot)
        return any([lies_in(lot, great) for great in self.great_lots(node)])

    def keep_rows(self, node, lot):
        """A row that leads a node to one, and one with the lot that leads this one to itself; or None."""
        if not self.keeps(node, lot):
            return None
        rows = self.rows_from(node)
        number = min([self.numbers[place] for place in rows if self.can_hold(self.numbers[place], lot)])
        signs = lot if lot != "" else self.held[number][0]
        start = min([place for place in self.knots[number] if self.stays(number, place, signs[0])])
        return rows[start], self.tour_of(number, start, signs)

    def can_hold(self, number, lot):
        """Whether a knot holds some signal, and those of a lot."""
        return self.held[number] != "" and lies_in(lot, self.held[number])

    def stays(self, number, node, sign):
        """Whether a signal leads a node into a knot."""
        return any([move == sign and self.numbers[goal] == number for move, goal in self.moves[node]])

    def tour_of(self, number, start, signs):
        """A row within a knot, from a node of it back to this one, with all of some signals that the knot holds."""
        return tour_back(part_moves(self.moves, self.knots[number]), start, signs)

    def just_lots(self, node):
        """The lots of which some row keeps a node in the web, gives all for ever and, in the end, no other signal."""
        self.check_node(node)
        places = list(self.rows_from(node))
        return tuple([lot for lot in all_lots(self.device.signals) if self.holds_just(places, lot)])

    def holds_just(self, places, lot):
        """Whether some places come to one another by the signals of a lot alone, all of them in use."""
        few = {place: [(sign, goal) for sign, goal in self.moves[place] if sign in lot] for place in places}
        return any([held_lot(part_moves(few, part)) == lot for part in strong_parts(few)])


def state_moves(device):
    """By state its steps."""
    tables = list(zip(device.signals, device.tables))
    return {state: tuple([(sign, table[state]) for sign, table in tables]) for state in range(device.states)}


def pair_moves(device):
    """By pair its steps to pairs, ascending."""
    moves = {}
    for one in range(device.states):
        for other in range(one + 1, device.states):
            steps = [(sign, joined_pair(table[one], table[other])) for sign, table in signal_tables(device).items()]
            moves[(one, other)] = tuple([(sign, goal) for sign, goal in steps if goal is not None])
    return moves


def joined_pair(one, other):
    """The pair of two states, None if they are one."""
    if one == other:
        return None
    return (one, other) if one < other else (other, one)


def first_rows(start, moves_of):
    """By node that rows lead a start to the first of these rows, in the order of the rows."""
    # nodes come up in the order of their first rows, so the first row to a node is the first that is found
    rows = {start: ""}
    queue = [start]
    at = 0
    while at < len(queue):
        node = queue[at]
        for sign, goal in moves_of(node):
            if goal not in rows:
                rows[goal] = rows[node] + sign
                queue.append(goal)
        at += 1
    return rows


def part_moves(moves, part):
    """By node of a part its steps within the part."""
    inside = {node: True for node in part}
    return {node: [(sign, goal) for sign, goal in moves[node] if goal in inside] for node in part}


def held_lot(moves):
    """The lot of the signals by which some steps go."""
    return "".join(sorted(set([sign for steps in list(moves.values()) for sign, _ in steps])))


def tour_back(moves, start, signs):
    """A row from a start back to it with all of some signals; each node comes to each other one."""
    word = ""
    place = start
    for sign in signs:
        if sign not in word:
            rows = first_rows(place, lambda node: moves[node])
            edge = [node for node in rows if sign in dict(moves[node])][0]
            word = word + rows[edge] + sign
            place = dict(moves[edge])[sign]
    return word + first_rows(place, lambda node: moves[node])[start]


def finish_order(moves):
    """The nodes in the order in which a search in depth is done with them."""
    order = []
    seen = {}
    for start in moves:
        trail = [(start, 0)] if start not in seen else []
        seen[start] = True
        while trail:
            node, at = trail.pop()
            if at == len(moves[node]):
                order.append(node)
            else:
                trail.append((node, at + 1))
                goal = moves[node][at][1]
                if goal not in seen:
                    seen[goal] = True
                    trail.append((goal, 0))
    return order


def strong_parts(moves):
    """The greatest parts whose nodes come to one another, each ascending; single nodes, too."""
    back = {node: [] for node in moves}
    for node, steps in moves.items():
        for _, goal in steps:
            back[goal].append(node)
    parts = []
    taken = {}
    for start in reversed(finish_order(moves)):
        if start not in taken:
            taken[start] = True
            part = [start]
            at = 0
            while at < len(part):
                place = part[at]
                for node in back[place]:
                    if node not in taken:
                        taken[node] = True
                        part.append(node)
                at += 1
            parts.append(sorted(part))
    return parts


def numbered_knots(moves):
    """The knots, numbered: next is always the one with the least node of those with nothing ahead of them."""
    parts = strong_parts(moves)
    part_of = {node: at for at, part in enumerate(parts) for node in part}
    goals = [{} for _ in parts]
    sources = [{} for _ in parts]
    for node, steps in moves.items():
        for _, goal in steps:
            if part_of[node] != part_of[goal]:
                goals[part_of[node]][part_of[goal]] = True
                sources[part_of[goal]][part_of[node]] = True
    waits = [len(ahead) for ahead in goals]
    queue = [(part[0], at) for at, part in enumerate(parts) if waits[at] == 0]
    heapify(queue)
    knots = []
    while queue:
        _, at = heappop(queue)
        knots.append(tuple(parts[at]))
        for source in sources[at]:
            waits[source] -= 1
            if waits[source] == 0:
                heappush(queue, (parts[source][0], source))
    return tuple(knots)


def outer_lots(lots):
    """Of some unlike lots those that are not empty and lie in no other one, ascending."""
    full = [lot for lot in lots if lot != ""]
    return tuple(sorted([lot for lot in full if not any([lot != more and lies_in(lot, more) for more in full])]))


def closed_knots(web):
    """The knots of a web of states from which no step leads out, by their least states."""
    closed = []
    for number, knot in enumerate(web.knots):
        if all([web.numbers[goal] == number for state in knot for _, goal in web.moves[state]]):
            closed.append(knot)
    return tuple(sorted(closed))


def web_districts(device):
    """The closed districts: knots of states from which no step leads out, by their least states."""
    return closed_knots(Web(device, "states"))


def outsiders(device):
    """The states that are in no closed district, ascending."""
    inside = {state: True for district in web_districts(device) for state in district}
    return tuple([state for state in range(device.states) if state not in inside])


def district_of(device, state):
    """The number of a state's closed district, None for an outsider."""
    check_state(device, state)
    for number, district in enumerate(web_districts(device)):
        if state in district:
            return number
    return None

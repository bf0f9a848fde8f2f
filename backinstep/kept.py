"""How many rounds can keep two states apart, and which rows do."""

from backinstep.basics import (
    check_number, check_pair, check_row, is_lot, is_number, is_row, is_sequence, is_sequence_of, is_told_pair,
)
from backinstep.classes import group_pairs, joined_groups
from backinstep.devices import Device
from backinstep.errors import Refused, TooGreat
from backinstep.families import check_family, led_from, lot_steps
from backinstep.sure import led_pair
from backinstep.webs import first_rows, pair_moves, strong_parts

MOST_ROUNDS = 60
MOST_TABLES = 5
MOST_GROUPED = 8
# more than there are rows of sixty signals
SPREAD = 10 ** 50


def cut_graph(moves_of, steps, places):
    """By (place, lot since the last cut) its steps, as far as rows lead some places; a step to the lot "" is a cut."""

    def moves_on(node):
        place, lot = node
        return tuple([(sign, (goal, steps[(lot, sign)])) for sign, goal in moves_of(place)])

    return {node: moves_on(node) for node in led_from(moves_on, [(place, "") for place in places])}


def cut_heights(graph):
    """By node of such a graph the most cuts of a way from it, None if there is no most."""
    heights = {}
    # the parts from which no step leads to another one stand last
    for part in reversed(strong_parts(graph)):
        inside = {node: True for node in part}
        endless = False
        gains = [0]
        for node in part:
            for _, goal in graph[node]:
                cuts = 1 if goal[1] == "" else 0
                if goal in inside:
                    endless = endless or cuts > 0
                elif heights[goal] is None:
                    endless = True
                else:
                    gains.append(heights[goal] + cuts)
        for node in part:
            heights[node] = None if endless else max(gains)
    return heights


def steps_to_cut(moves_of, steps, node):
    """The steps of a place and the lot since the last cut; behind a cut the lot is None, and there are no steps."""
    place, lot = node
    if lot is None:
        return []
    ahead = [(sign, goal, steps[(lot, sign)]) for sign, goal in moves_of(place)]
    return [(sign, (goal, None if more == "" else more)) for sign, goal, more in ahead]


def first_cuts(moves_of, steps, place, lot):
    """By place to which a row with its only cut at its end leads one the first such row, in their order."""
    rows = first_rows((place, lot), lambda node: steps_to_cut(moves_of, steps, node))
    return {goal: row for (goal, more), row in rows.items() if more is None}


def first_cut_row(moves_of, steps, place, many):
    """The first row with just so many cuts along which a place can be led, or None."""
    if many == 0:
        return ""
    start = (place, "", 0)
    seen = {start: True}
    trail = [(start, 0, "")]
    at = 0
    while at < len(trail):
        place, lot, cuts = trail[at][0]
        for sign, goal in moves_of(place):
            more = steps[(lot, sign)]
            node = (goal, more, cuts + 1 if more == "" else cuts)
            if node not in seen:
                seen[node] = True
                trail.append((node, at, sign))
                if node[2] == many:
                    return trail_row(trail)
        at += 1
    return None


def trail_row(trail):
    """The row that leads to the last node of a trail."""
    signs = []
    at = len(trail) - 1
    while at > 0:
        _, before, sign = trail[at]
        signs.append(sign)
        at = before
    return "".join(signs[::-1])


def pair_heights(device, family, pairs):
    """By (pair, lot since the last cut), as far as rows lead some pairs, the most cuts to come; family checked."""
    moves = pair_moves(device)
    return cut_heights(cut_graph(lambda pair: moves[pair], lot_steps(device, family), pairs))


def towered(states, heights):
    """The groupings for t = 0, 1, .. if each pair is joined from one more than its height on."""
    last = max([height + 1 for height in heights.values() if height is not None] + [0])
    groupings = []
    for many in range(last + 1):
        joined = [pair for pair, height in heights.items() if height is not None and height < many]
        groupings.append(joined_groups(states, joined))
    return tuple(groupings)


def tower_groupings(device, family):
    """The tower: for t = 0, 1, .. the classes of states that every row with t rounds or more leads to one."""
    return towered(device.states, dict(rounds_table(device, family)))


def tower_numbers(device, family):
    """How many classes the tower has for t = 0, 1, .."""
    return tuple([len(groups) for groups in tower_groupings(device, family)])


def most_rounds(device, family, pair):
    """The most rounds of a row that keeps a pair apart, None if there is no most."""
    told = check_family(device, family)
    check_pair(device, pair)
    return pair_heights(device, told, [pair])[(pair, "")]


def rounds_table(device, family):
    """Of each pair the most rounds of a row that keeps it apart."""
    told = check_family(device, family)
    pairs = list(pair_moves(device))
    heights = pair_heights(device, told, pairs)
    return tuple([(pair, heights[(pair, "")]) for pair in pairs])


def round_steps(device, family, pair):
    """The pairs to which rows with their only cut at the end lead a pair, each with the fewest signals of one."""
    told = check_family(device, family)
    check_pair(device, pair)
    moves = pair_moves(device)
    rows = first_cuts(lambda place: moves[place], lot_steps(device, told), pair, "")
    return tuple(sorted([(goal, len(row)) for goal, row in rows.items()]))


def apart_row(device, family, pair, many):
    """The first row with just so many rounds that keeps a pair apart, or None."""
    told = check_family(device, family)
    check_pair(device, pair)
    check_number(many, 0, MOST_ROUNDS)
    moves = pair_moves(device)
    return first_cut_row(lambda place: moves[place], lot_steps(device, told), pair, many)


def kept_numbers(device, family, pair, length):
    """How many rows of a length have 0, 1, .. rounds and keep a pair apart."""
    told = check_family(device, family)
    check_pair(device, pair)
    check_number(length, 0, MOST_ROUNDS)
    moves = pair_moves(device)
    graph = cut_graph(lambda place: moves[place], lot_steps(device, told), [pair])
    # one number tells how many rows there are with 0, 1, .. rounds, each so many digits further on
    totals = {(pair, ""): 1}
    for _ in range(length):
        later = {}
        for node, total in totals.items():
            for _, goal in graph[node]:
                later[goal] = later.get(goal, 0) + (total * SPREAD if goal[1] == "" else total)
        totals = later
    total = sum(list(totals.values()))
    numbers = []
    while total > 0:
        total, number = divmod(total, SPREAD)
        numbers.append(number)
    return tuple(numbers)


def most_paper(device, family, pair):
    """The paper of the most rounds that keep a pair apart, None if the pair is not sure."""
    told = check_family(device, family)
    check_pair(device, pair)
    heights = pair_heights(device, told, [pair])
    most = heights[(pair, "")]
    if most is None:
        return None
    moves = pair_moves(device)
    row = first_cut_row(lambda place: moves[place], lot_steps(device, told), pair, most)
    return "most", row, tuple([(place, lot, heights[(place, lot)]) for place, lot in sorted(heights)])


def most_holds(device, family, pair, value):
    """Whether any value is a paper of the most rounds that keep a pair apart."""
    told = check_family(device, family)
    check_pair(device, pair)
    if not is_sequence_of(value, 3):
        return False
    word, row, triples = value
    if word != "most" or not is_row(device, row) or not is_sequence(triples):
        return False
    if not all([is_height_triple(device, triple) for triple in triples]):
        return False
    heights = {(tuple(place), lot): height for place, lot, height in triples}
    if len(heights) != len(triples) or led_pair(device, pair, row) is None:
        return False
    steps = lot_steps(device, told)
    lot = ""
    cuts = 0
    for sign in row:
        lot = steps[(lot, sign)]
        cuts += 1 if lot == "" else 0
    return heights.get((pair, "")) == cuts and are_heights(pair_moves(device), steps, heights)


def is_height_triple(device, value):
    """Whether any value tells a pair, a lot and a number."""
    if not is_sequence_of(value, 3):
        return False
    return is_told_pair(device, value[0]) and is_lot(device, value[1]) and is_number(value[2])


def are_heights(moves, steps, heights):
    """Whether signals lead all pairs with their lots to told heights, no greater ones, lesser ones at a cut."""
    for (place, lot), height in heights.items():
        for sign, goal in moves[place]:
            more = steps[(lot, sign)]
            ahead = heights.get((goal, more))
            if ahead is None or ahead > height or more == "" and ahead == height:
                return False
    return True


def told_groups(value, states):
    """The groups of any value that is a grouping of the states below a number, by least states, or ()."""
    if not is_sequence(value) or not all([is_sequence(group) and len(group) > 0 for group in value]):
        return ()
    told = [state for group in value for state in group]
    if len(told) != states or not all([is_number(state) and state < states for state in told]):
        return ()
    if len(set(told)) != states:
        return ()
    return tuple(sorted([tuple(sorted(group)) for group in value]))


def told_tower(groupings):
    """The groupings of any value that is such as a tower has, each in its order, or Refused."""
    if not is_sequence(groupings) or not groupings or not is_sequence(groupings[0]):
        raise Refused(groupings)
    states = len(groupings[0])
    if not 1 <= states <= MOST_GROUPED:
        raise Refused(groupings)
    tower = [told_groups(value, states) for value in groupings]
    if not all(tower):
        raise Refused(groupings)
    for before, groups in zip(tower, tower[1:]):
        joined = group_pairs(groups)
        if len(groups) >= len(before) or not all([pair in joined for pair in group_pairs(before)]):
            raise Refused(groupings)
    return tower


def tower_device(groupings):
    """The device whose tower, for the single signals, the groupings are."""
    tower = told_tower(groupings)
    leasts = [{state: told[0] for told in groups for state in told} for groups in tower]
    states = len(tower[0])
    tables = [[leasts[-1][state] for state in range(states)]]
    for at in range(1, len(tower) - 1):
        fresh = [pair for pair in sorted(group_pairs(tower[at])) if pair not in group_pairs(tower[at - 1])]
        one, other = fresh[0]
        for group in tower[at]:
            if leasts[at + 1][group[0]] != group[0]:
                tables.append([other if state in group else one for state in range(states)])
    if len(tables) > MOST_TABLES:
        raise TooGreat(MOST_TABLES)
    return Device(tables)


class Keeper:
    """Hears signals and tells for how long two states can still be kept apart."""

    def __init__(self, device, family, pair):
        told = check_family(device, family)
        check_pair(device, pair)
        self.moves = pair_moves(device)
        self.steps = lot_steps(device, told)
        self.heights = pair_heights(device, told, [pair])
        self.device = device
        self.place = pair
        self.given = ""
        self.cuts = 0

    def hear(self, row):
        """Go on with a row."""
        check_row(self.device, row)
        for sign in row:
            if self.place is not None:
                self.place = led_pair(self.device, self.place, sign)
            self.given = self.steps[(self.given, sign)]
            self.cuts += 1 if self.given == "" else 0

    def standing(self):
        """The pair now or None, the lot since the last cut, and how many cuts there were."""
        return self.place, self.given, self.cuts

    def more_rounds(self):
        """The most cuts of a further row that keeps the pair apart, None if there is no most; -1 once it is joined."""
        return -1 if self.place is None else self.heights[(self.place, self.given)]

    def next_row(self):
        """The first further row to the next cut that leaves the most rounds one fewer, or None as they are; or None."""
        more = self.more_rounds()
        if self.place is None:
            return None
        rows = first_cuts(lambda pair: self.moves[pair], self.steps, self.place, self.given)
        goal = None if more is None else more - 1
        for pair, row in rows.items():
            if self.heights[(pair, "")] == goal:
                return row
        return None

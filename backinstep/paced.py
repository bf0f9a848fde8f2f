"""How long two states can be kept apart if no round is longer than a pace."""

from backinstep.basics import check_number, check_pair
from backinstep.families import check_family, led_from, lot_steps
from backinstep.kept import first_cuts, towered, way_heights
from backinstep.webs import first_rows, pair_moves, strong_parts

MOST_PACE = 100


def check_pace(pace):
    """Raise Refused for any value that is no pace."""
    check_number(pace, 1, MOST_PACE)


def round_graph(device, family, pairs):
    """By pair, as far as rounds lead some pairs, its steps (round, pair) by the first of the shortest such rounds."""
    moves = pair_moves(device)
    steps = lot_steps(device, family)
    graph = {}
    queue = list(pairs)
    while queue:
        pair = queue.pop()
        if pair not in graph:
            rows = first_cuts(lambda place: moves[place], steps, pair, "")
            graph[pair] = tuple([(row, goal) for goal, row in rows.items()])
            for goal in rows:
                queue.append(goal)
    return graph


def paced_graph(graph, pace):
    """The graph with rounds of at most so many signals."""
    return {pair: tuple([(row, goal) for row, goal in steps if len(row) <= pace]) for pair, steps in graph.items()}


def reached_graph(graph, pair):
    """The graph as far as it leads a pair."""
    return {place: graph[place] for place in led_from(lambda node: graph[node], [pair])}


def endless_places(graph, pair):
    """The pairs to which a graph leads a pair and that it leads to themselves, part by part."""
    ahead = reached_graph(graph, pair)
    parts = []
    for part in strong_parts(ahead):
        inside = {place: True for place in part}
        if any([goal in inside for place in part for _, goal in ahead[place]]):
            parts.append(part)
    return parts


def paced_tower(device, family, pace):
    """The tower if only rounds with at most so many signals are looked at."""
    told = check_family(device, family)
    check_pace(pace)
    pairs = list(pair_moves(device))
    graph = paced_graph(round_graph(device, told, pairs), pace)
    return towered(device.states, way_heights(graph, lambda goal: 1))


def paced_numbers(device, family, pace):
    """How many classes the tower of a pace has for t = 0, 1, .."""
    return tuple([len(groups) for groups in paced_tower(device, family, pace)])


def paced_classes(device, family, pace):
    """The last classes of the tower of a pace."""
    return paced_tower(device, family, pace)[-1]


def least_pace(device, family, pair):
    """The least number of signals to which rounds can keep and keep a pair apart for ever, or None."""
    told = check_family(device, family)
    check_pair(device, pair)
    graph = round_graph(device, told, [pair])
    lengths = sorted(set([len(row) for steps in graph.values() for row, _ in steps]))
    for length in lengths:
        if endless_places(paced_graph(graph, length), pair):
            return length
    return None


def endless_row(device, family, pair, pace):
    """Rows of short rounds, the first from a pair to one, the second from this one to itself; or None."""
    told = check_family(device, family)
    check_pair(device, pair)
    check_pace(pace)
    graph = paced_graph(round_graph(device, told, [pair]), pace)
    parts = endless_places(graph, pair)
    if not parts:
        return None
    start = parts[0][0]
    row, goal = [step for step in graph[start] if step[1] in parts[0]][0]
    ahead = first_rows(pair, lambda place: graph[place])
    back = first_rows(goal, lambda place: graph[place])
    return ahead[start], row + back[start]


def longest_row(device, family, pair, pace):
    """A row of a pace with the most signals that keeps a pair apart, None if there is an endless one."""
    if endless_row(device, family, pair, pace) is not None:
        return None
    moves = pair_moves(device)
    steps = lot_steps(device, check_family(device, family))

    def steps_of(node):
        place, lot, many = node
        ahead = []
        for sign, goal in moves[place]:
            more = steps[(lot, sign)]
            if more == "":
                ahead.append((sign, (goal, "", 0)))
            elif many + 1 < pace:
                ahead.append((sign, (goal, more, many + 1)))
        return ahead

    return longest_way((pair, "", 0), steps_of)


def longest_apart(device, family, pair, pace):
    """How many signals such a row has, None if there is an endless one."""
    row = longest_row(device, family, pair, pace)
    return None if row is None else len(row)


def longest_way(start, steps_of):
    """A row of the most signals from a node on, where no row leads a node to itself."""
    best = {}
    stack = [start]
    while stack:
        node = stack[-1]
        ahead = steps_of(node)
        waiting = [goal for _, goal in ahead if goal not in best]
        if waiting:
            stack.extend(waiting)
        else:
            stack.pop()
            best[node] = max([(best[goal][0] + 1, sign, goal) for sign, goal in ahead], default=(0, "", node))
    row = []
    node = start
    while best[node][0] > 0:
        row.append(best[node][1])
        node = best[node][2]
    return "".join(row)

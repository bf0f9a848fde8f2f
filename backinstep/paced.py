"""How long two states can be kept apart if no round is longer than a pace."""

from backinstep.basics import check_number, check_pair
from backinstep.families import check_family, led_from, lot_steps
from backinstep.kept import first_cuts, steps_to_cut, towered
from backinstep.webs import pair_moves

MOST_PACE = 100


def check_pace(pace):
    """Raise Refused for any value that is no pace."""
    check_number(pace, 1, MOST_PACE)


def round_sources(device, family):
    """By (pair, lot since the last cut) the nodes from which a signal leads to it, None for the lot behind a cut."""
    moves = pair_moves(device)
    steps = lot_steps(device, family)

    def moves_on(node):
        return steps_to_cut(lambda pair: moves[pair], steps, node)

    sources = {}
    for node in led_from(moves_on, [(pair, "") for pair in moves]):
        for _, goal in moves_on(node):
            sources.setdefault(goal, []).append(node)
    return sources


def led_by_round(sources, pairs, goals, pace):
    """Of some pairs those that a round of at most so many signals leads to a goal; of any length for None."""
    layer = [(goal, None) for goal in goals]
    seen = {node: True for node in layer}
    many = 0
    while layer and many != pace:
        later = []
        for node in layer:
            for source in sources.get(node, []):
                if source not in seen:
                    seen[source] = True
                    later.append(source)
        layer = later
        many += 1
    return [pair for pair in pairs if (pair, "") in seen]


def paced_heights(device, sources, pace):
    """By pair the most such rounds that keep it apart, None if there is no most."""
    pairs = list(pair_moves(device))
    heights = {pair: 0 for pair in pairs}
    later = led_by_round(sources, pairs, pairs, pace)
    while len(later) < len(pairs):
        for pair in later:
            heights[pair] += 1
        pairs = later
        later = led_by_round(sources, pairs, pairs, pace)
    # these come to one another for ever
    for pair in pairs:
        heights[pair] = None
    return heights


def paced_tower(device, family, pace):
    """The tower if only rounds with at most so many signals are looked at."""
    told = check_family(device, family)
    check_pace(pace)
    return towered(device.states, paced_heights(device, round_sources(device, told), pace))


def paced_numbers(device, family, pace):
    """How many classes the tower of a pace has for t = 0, 1, .."""
    return tuple([len(groups) for groups in paced_tower(device, family, pace)])


def paced_classes(device, family, pace):
    """The last classes of the tower of a pace."""
    return paced_tower(device, family, pace)[-1]


def least_pace(device, family, pair):
    """The least number of signals to which rounds can keep and keep a pair apart for ever, or None."""
    told = check_family(device, family)
    check_pair(device, pair)
    sources = round_sources(device, told)
    if paced_heights(device, sources, None)[pair] is not None:
        return None
    high = 1
    while paced_heights(device, sources, high)[pair] is not None:
        high = 2 * high
    low = high // 2
    # low is too little, high is enough
    while high - low > 1:
        middle = (low + high) // 2
        if paced_heights(device, sources, middle)[pair] is None:
            high = middle
        else:
            low = middle
    return high


def endless_row(device, family, pair, pace):
    """Rows of short rounds, the first from a pair to one, the second from this one to itself; or None."""
    told = check_family(device, family)
    check_pair(device, pair)
    check_pace(pace)
    heights = paced_heights(device, round_sources(device, told), pace)
    if heights[pair] is not None:
        return None
    moves = pair_moves(device)
    steps = lot_steps(device, told)
    places = []
    rounds = []
    while pair not in places:
        places.append(pair)
        rows = first_cuts(lambda place: moves[place], steps, pair, "")
        goals = [goal for goal, row in rows.items() if len(row) <= pace and heights[goal] is None]
        # one that came before is taken first
        pair = min(goals, key=lambda goal: 0 if goal in places else 1)
        rounds.append(rows[pair])
    at = places.index(pair)
    return "".join(rounds[:at]), "".join(rounds[at:])


def longest_row(device, family, pair, pace):
    """A row of a pace with the most signals that keeps a pair apart, None if there is an endless one."""
    told = check_family(device, family)
    check_pair(device, pair)
    check_pace(pace)
    if paced_heights(device, round_sources(device, told), pace)[pair] is None:
        return None
    moves = pair_moves(device)
    steps = lot_steps(device, told)

    def steps_of(node):
        place, lot, many = node
        ahead = []
        for sign, goal in moves[place]:
            more = steps[(lot, sign)]
            if more == "":
                ahead.append((sign, (goal, "", 0)))
            elif many + 1 < pace:
                ahead.append((sign, (goal, more, many + 1)))
        return ahead

    return longest_way((pair, "", 0), steps_of)


def longest_apart(device, family, pair, pace):
    """How many signals such a row has, None if there is an endless one."""
    row = longest_row(device, family, pair, pace)
    return None if row is None else len(row)


def longest_way(start, steps_of):
    """A row of the most signals from a node on, where no row leads a node to itself."""
    best = {}
    stack = [start]
    while stack:
        node = stack[-1]
        ahead = steps_of(node)
        waiting = [goal for _, goal in ahead if goal not in best]
        if waiting:
            stack.extend(waiting)
        else:
            stack.pop()
            best[node] = max([(best[goal][0] + 1, sign, goal) for sign, goal in ahead], default=(0, "", node))
    row = []
    node = start
    while best[node][0] > 0:
        row.append(best[node][1])
        node = best[node][2]
    return "".join(row)

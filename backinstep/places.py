"""How many places can be taken behind so many rounds, and by which rows."""

from backinstep.basics import check_number, is_state
from backinstep.classes import class_stairs, group_numbers
from backinstep.errors import Refused
from backinstep.families import check_family, lot_steps
from backinstep.kept import MOST_ROUNDS, cut_graph, cut_heights, first_cut_row, tower_groupings
from backinstep.webs import first_rows, strong_parts


def image_moves(device, least):
    """By a tuple of states the steps to those that they are led to, at least so many; kept once they are asked for."""
    known = {}
    tables = list(zip(device.signals, device.tables))

    def moves_of(states):
        if states not in known:
            ends = [(sign, tuple(sorted(set([table[state] for state in states])))) for sign, table in tables]
            known[states] = tuple([(sign, places) for sign, places in ends if len(places) >= least])
        return known[states]

    return moves_of


def all_states(device):
    """The tuple of all states."""
    return tuple(range(device.states))


def most_cuts(device, steps, states, least):
    """The most cuts of a row that leads some states to at least so many, None if there is no most."""
    heights = cut_heights(cut_graph(image_moves(device, least), steps, [states]))
    return heights[(states, "")]


def most_places(device, family):
    """For t = 0, 1, .. the most states taken behind a row with t rounds, to the first number that stays."""
    steps = lot_steps(device, check_family(device, family))
    numbers = []
    least = device.states
    cuts = most_cuts(device, steps, all_states(device), least)
    while cuts is not None:
        numbers = numbers + [least] * (cuts + 1 - len(numbers))
        least -= 1
        cuts = most_cuts(device, steps, all_states(device), least)
    return tuple(numbers + [least])


def places_row(device, family, many):
    """The first row with just so many rounds behind which the most states are taken."""
    told = check_family(device, family)
    check_number(many, 0, MOST_ROUNDS)
    numbers = most_places(device, told)
    least = numbers[min(many, len(numbers) - 1)]
    return first_cut_row(image_moves(device, least), lot_steps(device, told), all_states(device), many)


def places_kept(device, family):
    """A row that leads all states to so many as can be kept, and a round that leads these to just these."""
    told = check_family(device, family)
    least = most_places(device, told)[-1]
    graph = cut_graph(image_moves(device, least), lot_steps(device, told), [all_states(device)])
    for part in strong_parts(graph):
        inside = {node: True for node in part}
        for node in part:
            for sign, goal in graph[node]:
                if goal in inside and goal[1] == "":
                    # the step is a cut, so what leads its goal to itself by it is a round
                    ahead = first_rows((all_states(device), ""), lambda place: graph[place])
                    back = first_rows(goal, lambda place: graph[place])
                    return ahead[goal], back[node] + sign
    return None


def apart_rounds(device, family, states):
    """The most rounds of a row that leads some states to unlike ones, None if there is no most."""
    told = check_family(device, family)
    if not isinstance(states, tuple) or len(states) < 2 or not all([is_state(device, state) for state in states]):
        raise Refused(states)
    if sorted(set(states)) != list(states):
        raise Refused(states)
    return most_cuts(device, lot_steps(device, told), states, len(states))


def sides_bound(device, family, many):
    """How many states are taken at most behind so many rounds, by the stairs and the tower together."""
    stairs = class_stairs(device, family)
    check_number(many)
    tower = tower_groupings(device, family)
    last = len(stairs) - 1
    # behind the last stair nothing is new, and a lesser number for the tower only tells more classes apart
    nears = range(min(many, last) + 1)
    return min([met_sum(stairs[near], tower[min(many - near, last)], len(stairs[0])) for near in nears])


def met_sum(groups, classes, many):
    """Of the numbers of classes that groups meet the greatest ones, so many, added."""
    numbers = group_numbers(classes)
    met = [len(set([numbers[state] for state in group])) for group in groups]
    return sum(sorted(met, reverse=True)[:many])

"""How many places can be taken behind so many rounds, and by which rows."""

from backinstep.basics import check_number, is_state
from backinstep.classes import class_stairs, group_numbers
from backinstep.errors import Refused
from backinstep.families import check_family, led_from, lot_steps
from backinstep.kept import MOST_ROUNDS, cut_graph, cut_heights, first_cut_row, tower_groupings
from backinstep.webs import first_rows, strong_parts


def image_moves(device, states, least):
    """By the states to which rows lead some states, at least so many, the steps to such states."""
    tables = list(zip(device.signals, device.tables))

    def steps_of(places):
        ends = [(sign, tuple(sorted(set([table[state] for state in places])))) for sign, table in tables]
        return [(sign, goals) for sign, goals in ends if len(goals) >= least]

    return {places: steps_of(places) for places in led_from(steps_of, [states])}


def all_states(device):
    """The tuple of all states."""
    return tuple(range(device.states))


def most_cuts(device, steps, states, least):
    """The most cuts of a row that leads some states to at least so many, None if there is no most."""
    moves = image_moves(device, states, least)
    return cut_heights(cut_graph(lambda places: moves[places], steps, [states]))[(states, "")]


def most_places(device, family):
    """For t = 0, 1, .. the most states taken behind a row with t rounds, to the first number that stays."""
    steps = lot_steps(device, check_family(device, family))
    numbers = []
    least = device.states
    cuts = most_cuts(device, steps, all_states(device), least)
    while cuts is not None:
        numbers = numbers + [least] * (cuts + 1 - len(numbers))
        least -= 1
        cuts = most_cuts(device, steps, all_states(device), least)
    return tuple(numbers + [least])


def places_row(device, family, many):
    """The first row with just so many rounds behind which the most states are taken."""
    told = check_family(device, family)
    check_number(many, 0, MOST_ROUNDS)
    numbers = most_places(device, told)
    moves = image_moves(device, all_states(device), numbers[min(many, len(numbers) - 1)])
    return first_cut_row(lambda places: moves[places], lot_steps(device, told), all_states(device), many)


def places_kept(device, family):
    """A row that leads all states to so many as can be kept, and a round that leads these to just these."""
    told = check_family(device, family)
    moves = image_moves(device, all_states(device), most_places(device, told)[-1])
    graph = cut_graph(lambda places: moves[places], lot_steps(device, told), [all_states(device)])
    part_of = {node: at for at, part in enumerate(strong_parts(graph)) for node in part}
    # a row that leads a place to itself and ends with a cut is a round
    cuts = [(node, sign, goal) for node, steps in graph.items() for sign, goal in steps if goal[1] == ""]
    node, sign, goal = [cut for cut in cuts if part_of[cut[0]] == part_of[cut[2]]][0]
    ahead = first_rows((all_states(device), ""), lambda place: graph[place])
    back = first_rows(goal, lambda place: graph[place])
    return ahead[goal], back[node] + sign


def apart_rounds(device, family, states):
    """The most rounds of a row that leads some states to unlike ones, None if there is no most."""
    told = check_family(device, family)
    if not isinstance(states, tuple) or len(states) < 2 or not all([is_state(device, state) for state in states]):
        raise Refused(states)
    if sorted(set(states)) != list(states):
        raise Refused(states)
    return most_cuts(device, lot_steps(device, told), states, len(states))


def sides_bound(device, family, many):
    """How many states are taken at most behind so many rounds, by the stairs and the tower together."""
    stairs = class_stairs(device, family)
    check_number(many)
    tower = tower_groupings(device, family)
    last = len(stairs) - 1
    # behind the last stair nothing is new, and a lesser number for the tower only tells more classes apart
    nears = range(min(many, last) + 1)
    return min([met_sum(stairs[near], tower[min(many - near, last)], len(stairs[0])) for near in nears])


def met_sum(groups, classes, many):
    """Of the numbers of classes that groups meet the greatest ones, so many, added."""
    numbers = group_numbers(classes)
    met = [len(set([numbers[state] for state in group])) for group in groups]
    return sum(sorted(met, reverse=True)[:many])

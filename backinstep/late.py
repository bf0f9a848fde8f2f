"""Who comes late: the states that are taken behind many rounds, and how many notes tell them apart."""

from backinstep.basics import (
    check_number, is_lot, is_number_to, is_row, is_sequence, is_sequence_of, is_state,
)
from backinstep.classes import full_lots, sure_classes
from backinstep.devices import row_end, signal_tables
from backinstep.families import behind_round, check_family, fills, lot_steps, meets_all
from backinstep.kept import tower_groupings
from backinstep.webs import Web, state_moves


def lasting_states(device, family):
    """The states that are taken behind any number of rounds, ascending."""
    return behind_layers(device, family)[-1]


def behind_layers(device, family):
    """The states that are taken behind 0, 1, .. rounds, to the first that stay."""
    steps = lot_steps(device, check_family(device, family))
    moves = state_moves(device)
    layers = [tuple(range(device.states))]
    later = tuple(sorted(behind_round(lambda state: moves[state], steps, layers[-1])))
    while later != layers[-1]:
        layers.append(later)
        later = tuple(sorted(behind_round(lambda state: moves[state], steps, layers[-1])))
    return layers


def behind_states(device, family, given):
    """The states that are taken behind so many rounds, ascending."""
    layers = behind_layers(device, family)
    check_number(given)
    return layers[min(given, len(layers) - 1)]


def lasting_classes(device, family):
    """The classes that hold a lasting state."""
    lasting = lasting_states(device, family)
    return tuple([group for group in sure_classes(device, family) if any([state in lasting for state in group])])


def notes_needed(device, family, given, later):
    """The fewest unlike notes with which the state is known so many rounds behind the given ones."""
    places = behind_states(device, family, given)
    check_number(later)
    tower = tower_groupings(device, family)
    groups = tower[min(later, len(tower) - 1)]
    return len([group for group in groups if any([state in places for state in group])])


def lasting_paper(device, family):
    """The paper of ways to all lasting states and of heights of the others, which fair rows lead down."""
    told = check_family(device, family)
    web = Web(device, "states")
    lots = full_lots(web, told)
    ways = {}
    for start in web.nodes:
        number = web.numbers[start]
        if number in lots and web.knots[number][0] == start:
            again = web.tour_of(number, start, lots[number])
            for state, row in web.rows_from(start).items():
                ways[state] = (state, start, again, row)
    heights = {}
    lacks = []
    for knot, held in zip(web.knots, web.held):
        if knot[0] not in ways:
            for state in knot:
                heights[state] = len(lacks)
            lacks.append("".join([sign for sign in device.signals if sign not in held]))
    told_ways = tuple([ways[state] for state in sorted(list(ways))])
    return "lasting", told_ways, tuple(sorted(list(heights.items()))), tuple(lacks)


def lasting_holds(device, family, value):
    """Whether any value is a paper of lasting states."""
    told = check_family(device, family)
    if not is_sequence_of(value, 4):
        return False
    word, ways, entries, lacks = value
    if word != "lasting" or not is_sequence(ways) or not is_sequence(entries) or not is_sequence(lacks):
        return False
    if not all([is_lot(device, lack) and meets_all(lack, told) for lack in lacks]):
        return False
    if not all([is_way(device, told, way) for way in ways]):
        return False
    if not all([is_state_height(device, entry, len(lacks)) for entry in entries]):
        return False
    lasting = {way[0]: True for way in ways}
    heights = {state: height for state, height in entries}
    if len(ways) + len(entries) != device.states or len(lasting) + len(heights) != device.states:
        return False
    if any([state in heights for state in lasting]):
        return False
    if not all([table[state] in lasting for table in device.tables for state in lasting]):
        return False
    return all([falls(device, lasting, heights, state, lacks[height]) for state, height in heights.items()])


def is_way(device, family, value):
    """Whether any value tells a state, a start, a round that keeps the start, and a row from it to the state."""
    if not is_sequence_of(value, 4):
        return False
    state, start, again, row = value
    if not is_state(device, state) or not is_state(device, start):
        return False
    if not is_row(device, again) or not is_row(device, row):
        return False
    return fills(family, again) and row_end(device, start, again) == start and row_end(device, start, row) == state


def is_state_height(device, value, many):
    """Whether any value tells of a state a number below some number."""
    return is_sequence_of(value, 2) and is_state(device, value[0]) and is_number_to(value[1], 0, many - 1)


def falls(device, lasting, heights, state, lack):
    """Whether all signals lead a state to lasting ones or no higher, those of a lot lower."""
    for sign, table in signal_tables(device).items():
        goal = table[state]
        if goal not in lasting and heights[goal] > heights[state] - (1 if sign in lack else 0):
            return False
    return True

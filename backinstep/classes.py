"""Classes of sure states, how soon they are one, and outsiders on their way into closed districts."""

from backinstep.basics import check_number, is_row, is_sequence_of, is_state, lies_in
from backinstep.devices import Device, row_end
from backinstep.families import behind_round, check_family, fills, lot_steps
from backinstep.sure import chance_pairs, sure_pairs
from backinstep.webs import Web, outsiders, pair_moves, state_moves


def joined_groups(states, pairs):
    """What joining pairs makes of the states below a number: groups, each ascending, by their least states."""
    labels = list(range(states))
    for one, other in pairs:
        if labels[one] != labels[other]:
            low = min(labels[one], labels[other])
            high = max(labels[one], labels[other])
            labels = [low if label == high else label for label in labels]
    groups = {}
    for state, label in enumerate(labels):
        groups[label] = groups.get(label, ()) + (state,)
    return tuple(groups.values())


def group_numbers(groups):
    """By state the number of its group."""
    numbers = {state: number for number, group in enumerate(groups) for state in group}
    return tuple([numbers[state] for state in range(len(numbers))])


def group_pairs(groups):
    """The pairs of states of one group."""
    return [(one, other) for group in groups for one in group for other in group if one < other]


def sure_classes(device, family):
    """The classes of sure states."""
    return joined_groups(device.states, sure_pairs(device, family))


def chance_classes(device):
    """The classes of states that meet by chance."""
    return joined_groups(device.states, chance_pairs(device))


def class_numbers(device, family):
    """By state the number of its class."""
    return group_numbers(sure_classes(device, family))


def class_device(device, family):
    """The device whose states are the classes."""
    classes = sure_classes(device, family)
    numbers = group_numbers(classes)
    return Device([[numbers[table[group[0]]] for group in classes] for table in device.tables])


def fewest_notes(device, family):
    """How many classes there are."""
    return len(sure_classes(device, family))


def class_stairs(device, family):
    """The stairs, from the classes to single states: what is sure to be one that many rounds on."""
    stairs = [sure_classes(device, family)]
    steps = lot_steps(device, check_family(device, family))
    moves = pair_moves(device)
    while len(stairs[-1]) < device.states:
        pairs = behind_round(lambda pair: moves[pair], steps, group_pairs(stairs[-1]))
        stairs.append(joined_groups(device.states, pairs))
    return tuple(stairs)


def enough_rounds(device, family):
    """The least number of rounds that always bring all sure pairs together."""
    return len(class_stairs(device, family)) - 1


def places_bound(device, family, many):
    """How many states are taken at most behind so many rounds, by the stairs."""
    stairs = class_stairs(device, family)
    check_number(many)
    return device.states - len(stairs[min(many, len(stairs) - 1)]) + len(stairs[0])


def full_lots(web, family):
    """By number of a knot that holds all signals of some lot of a checked family the first such lot."""
    lots = {}
    for number, held in enumerate(web.held):
        inside = [lot for lot in family if lies_in(lot, held)]
        if inside:
            lots[number] = inside[0]
    return lots


def out_paper(device, family):
    """The paper of the least outsider that can be kept outside, None if there is none."""
    told = check_family(device, family)
    web = Web(device, "states")
    outside = outsiders(device)
    lots = full_lots(web, told)
    for state in outside:
        rows = web.rows_from(state)
        for place in rows:
            number = web.numbers[place]
            if number in lots and place in outside:
                return "out", state, rows[place], web.tour_of(number, place, lots[number])
    return None


def out_holds(device, family, value):
    """Whether any value is a paper of an outsider that can be kept outside."""
    told = check_family(device, family)
    if not is_sequence_of(value, 4):
        return False
    word, state, row, again = value
    if word != "out" or not is_state(device, state) or not is_row(device, row) or not is_row(device, again):
        return False
    # what is led to an outsider is one itself
    place = row_end(device, state, row)
    return place in outsiders(device) and fills(told, again) and row_end(device, place, again) == place


def outside_moves(device):
    """By outsider its steps to outsiders."""
    outside = outsiders(device)
    moves = state_moves(device)
    return {state: [(sign, goal) for sign, goal in moves[state] if goal in outside] for state in outside}


def out_stairs(device, family):
    """How many outsiders can still be outside behind 0, 1, .. rounds, None if one can be for ever."""
    if out_paper(device, family) is not None:
        return None
    steps = lot_steps(device, check_family(device, family))
    moves = outside_moves(device)
    places = list(moves)
    numbers = [len(places)]
    while places:
        places = behind_round(lambda state: moves[state], steps, places)
        numbers.append(len(places))
    return tuple(numbers)

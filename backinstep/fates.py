"""What becomes of two copies that hear the same."""

from backinstep.basics import (
    check_state, is_number, is_row, is_sequence, is_sequence_of, is_told_pair,
)
from backinstep.families import check_family
from backinstep.sure import (
    apart_holds, apart_paper, chance_pairs, joining_numbers, joining_row, led_pair, stuck_row, sure_holds, sure_pairs,
    sure_paper,
)
from backinstep.webs import Web, joined_pair


def pair_fate(device, family, one, other):
    """The fate of two states: one, sure, chance, open or never."""
    told = check_family(device, family)
    check_state(device, one)
    check_state(device, other)
    pair = joined_pair(one, other)
    return "one" if pair is None else fates_by_pair(device, told)[pair]


def fates_by_pair(device, family):
    """By pair, ascending, its fate for a checked family."""
    sure = {pair: True for pair in sure_pairs(device, family)}
    chance = {pair: True for pair in chance_pairs(device)}
    joined = joining_numbers(device)
    fates = {}
    for pair in Web(device, "pairs").nodes:
        if pair in sure:
            fates[pair] = "sure"
        elif pair in chance:
            fates[pair] = "chance"
        else:
            fates[pair] = "open" if pair in joined else "never"
    return fates


def fate_pairs(device, family):
    """The fates of all pairs, ascending."""
    return tuple(fates_by_pair(device, check_family(device, family)).items())


def fate_paper(device, family, one, other):
    """The paper of the fate of two states."""
    fate = pair_fate(device, family, one, other)
    pair = joined_pair(one, other)
    if fate == "one":
        return (fate,)
    if fate == "sure":
        return fate, sure_paper(device, family)
    web = Web(device, "pairs")
    if fate == "chance":
        numbers = joining_numbers(device)
        ways = tuple([(place, numbers[place]) for place in web.reached(pair)])
        return fate, apart_paper(device, family, pair), ways
    if fate == "never":
        return fate, web.reached(pair)
    row = stuck_row(device, pair)
    return fate, joining_row(device, pair), row, web.reached(web.node_after(pair, row))


def fate_holds(device, family, one, other, value):
    """Whether any value is a paper of the fate of two states."""
    told = check_family(device, family)
    check_state(device, one)
    check_state(device, other)
    pair = joined_pair(one, other)
    if not is_sequence(value) or len(value) == 0:
        return False
    if pair is None:
        return len(value) == 1 and value[0] == "one"
    if value[0] == "sure":
        return len(value) == 2 and is_surely_told(device, told, pair, value[1])
    if value[0] == "chance":
        return len(value) == 3 and is_apart(device, told, pair, value[1]) and are_ways(device, pair, value[2])
    if value[0] == "never":
        return len(value) == 2 and are_kept_pairs(device, pair, value[1])
    return value[0] == "open" and len(value) == 4 and is_open(device, pair, value[1:])


def is_surely_told(device, family, pair, value):
    """Whether any value is a paper of sure pairs that has a pair."""
    return sure_holds(device, family, value) and pair in [tuple(place) for place, _ in value[1]]


def is_apart(device, family, pair, value):
    """Whether any value is a paper of rows that keep just this pair apart."""
    return apart_holds(device, family, value) and tuple(value[1]) == pair


def are_ways(device, pair, value):
    """Whether any value tells numbers of pairs, a pair among them, by which signals lead on until they join."""
    if not is_sequence(value) or not all([is_way(device, entry) for entry in value]):
        return False
    numbers = {tuple(place): number for place, number in value}
    if len(numbers) != len(value) or pair not in numbers:
        return False
    for place, number in numbers.items():
        goals = [led_pair(device, place, sign) for sign in device.signals]
        if not all([goal is None or goal in numbers for goal in goals]):
            return False
        if number - 1 not in [0 if goal is None else numbers[goal] for goal in goals]:
            return False
    return True


def is_way(device, value):
    """Whether any value tells of a pair a number from 1 on."""
    return is_sequence_of(value, 2) and is_told_pair(device, value[0]) and is_number(value[1]) and value[1] > 0


def are_kept_pairs(device, pair, value):
    """Whether any value is unlike pairs, a pair among them, that signals lead to one another and never join."""
    if not is_sequence(value) or not all([is_told_pair(device, place) for place in value]):
        return False
    places = {tuple(place): True for place in value}
    if len(places) != len(value) or pair not in places:
        return False
    return all([led_pair(device, place, sign) in places for place in places for sign in device.signals])


def is_open(device, pair, value):
    """Whether any three values are a row that joins a pair, one that leads it to a pair, and pairs with this one."""
    joins, row, places = value
    if not is_row(device, joins) or not is_row(device, row) or led_pair(device, pair, joins) is not None:
        return False
    place = led_pair(device, pair, row)
    return place is not None and are_kept_pairs(device, place, places)

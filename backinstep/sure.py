"""Which states every fair row brings together, what shows it, and what keeps two apart."""

from backinstep.basics import (
    all_lots, check_pair, is_lot, is_number_to, is_row, is_sequence, is_sequence_of, is_told_pair, lies_in,
)
from backinstep.devices import row_end, signal_tables
from backinstep.families import check_family, fills, least_of, meets_all
from backinstep.webs import Web, joined_pair, pair_moves


def is_kept_apart(web, family, pair):
    """Whether some row that is fair for a checked family keeps a pair apart."""
    return any([fills(family, great) for great in web.great_lots(pair)])


def is_sure(device, family, pair):
    """Whether every fair row brings the states of a pair together."""
    told = check_family(device, family)
    check_pair(device, pair)
    return not is_kept_apart(Web(device, "pairs"), told, pair)


def sure_pairs(device, family):
    """The pairs that are sure, ascending."""
    told = check_family(device, family)
    web = Web(device, "pairs")
    return tuple([pair for pair in web.nodes if not is_kept_apart(web, told, pair)])


def far_pairs(device, family):
    """The pairs that are not sure, ascending."""
    told = check_family(device, family)
    web = Web(device, "pairs")
    return tuple([pair for pair in web.nodes if is_kept_apart(web, told, pair)])


def outer_lots_of(web, pairs):
    """The lots of which no endless row keeps one of some pairs apart."""
    great = sorted(set([lot for pair in pairs for lot in web.great_lots(pair)]))
    return [lot for lot in all_lots(web.device.signals) if not any([lies_in(lot, told) for told in great])]


def needed_lots(device, pair):
    """The least lots each of which alone makes a pair sure."""
    check_pair(device, pair)
    return least_of(outer_lots_of(Web(device, "pairs"), [pair]))


def weakest_family(device, pairs):
    """Of the families for which some pairs are sure the one that all others are stricter than, or None."""
    for pair in pairs:
        check_pair(device, pair)
    lots = least_of(outer_lots_of(Web(device, "pairs"), pairs))
    return lots if lots else None


def apart_paper(device, family, pair):
    """The paper of rows that keep a pair apart, None for a sure pair."""
    told = check_family(device, family)
    check_pair(device, pair)
    web = Web(device, "pairs")
    for lot in told:
        if web.keeps(pair, lot):
            row, again = web.keep_rows(pair, lot)
            return "apart", pair, row, again
    return None


def led_pair(device, pair, row):
    """The pair of the states behind a row, None if they are one."""
    one, other = pair
    return joined_pair(row_end(device, one, row), row_end(device, other, row))


def apart_holds(device, family, value):
    """Whether any value is a paper of rows that keep a pair apart."""
    told = check_family(device, family)
    if not is_sequence_of(value, 4):
        return False
    word, pair, row, again = value
    if word != "apart" or not is_told_pair(device, pair) or not is_row(device, row) or not is_row(device, again):
        return False
    place = led_pair(device, pair, row)
    return place is not None and fills(told, again) and led_pair(device, place, again) == place


def sure_paper(device, family):
    """The paper of heights of the sure pairs, which fair rows lead down until they are together."""
    told = check_family(device, family)
    web = Web(device, "pairs")
    # sure pairs lead to sure ones alone, and the knots that they are in are numbered from below
    sure = [number for number, knot in enumerate(web.knots) if not is_kept_apart(web, told, knot[0])]
    heights = {number: height for height, number in enumerate(sure)}
    entries = [(pair, heights[web.numbers[pair]]) for pair in web.nodes if web.numbers[pair] in heights]
    lacks = ["".join([sign for sign in device.signals if sign not in web.held[number]]) for number in sure]
    return "sure", tuple(entries), tuple(lacks)


def sure_holds(device, family, value):
    """Whether any value is a paper of heights by which all its pairs are sure."""
    told = check_family(device, family)
    if not is_sequence_of(value, 3):
        return False
    word, entries, lacks = value
    if word != "sure" or not is_sequence(entries) or not is_sequence(lacks):
        return False
    if not all([is_lot(device, lack) and meets_all(lack, told) for lack in lacks]):
        return False
    if not all([is_height(device, entry, len(lacks)) for entry in entries]):
        return False
    heights = {tuple(pair): height for pair, height in entries}
    if len(heights) != len(entries):
        return False
    return all([leads_down(device, heights, pair, lacks[heights[pair]]) for pair in heights])


def is_height(device, value, many):
    """Whether any value tells of a pair a number below some number."""
    return is_sequence_of(value, 2) and is_told_pair(device, value[0]) and is_number_to(value[1], 0, many - 1)


def leads_down(device, heights, pair, lack):
    """Whether all signals lead a pair no higher, those of its lot lower; one state is the lowest."""
    height = heights[pair]
    for sign in device.signals:
        goal = led_pair(device, pair, sign)
        if goal is not None:
            if goal not in heights or heights[goal] > height or sign in lack and heights[goal] == height:
                return False
    return True


def joining_signal(device, pair):
    """The first signal that leads a pair to one state, or None."""
    one, other = pair
    for sign, table in signal_tables(device).items():
        if table[one] == table[other]:
            return sign
    return None


def joining_row(device, pair):
    """The first row that leads a pair to one state, or None."""
    check_pair(device, pair)
    rows = Web(device, "pairs").rows_from(pair)
    # the rows come in their order, so the first that can be ended ends first
    for place in rows:
        sign = joining_signal(device, place)
        if sign is not None:
            return rows[place] + sign
    return None


def joining_numbers(device):
    """By pair that some row joins the fewest signals of such a row."""
    moves = pair_moves(device)
    sources = {pair: [] for pair in moves}
    for pair, steps in moves.items():
        for _, goal in steps:
            sources[goal].append(pair)
    layer = [pair for pair, steps in moves.items() if len(steps) < len(device.signals)]
    numbers = {}
    many = 0
    while layer:
        many += 1
        for pair in layer:
            numbers[pair] = many
        layer = sorted(set([pair for goal in layer for pair in sources[goal] if pair not in numbers]))
    return numbers


def joined_knots(web):
    """By number of a knot whether some row joins its pairs."""
    joined = []
    for number, knot in enumerate(web.knots):
        goals = [web.numbers[goal] for pair in knot for _, goal in web.moves[pair]]
        below = any([joined[goal] for goal in goals if goal < number])
        joined.append(below or any([joining_signal(web.device, pair) is not None for pair in knot]))
    return joined


def chance_pairs(device):
    """The pairs that meet by chance, ascending: each pair that they come to is joined by some row."""
    web = Web(device, "pairs")
    joined = joined_knots(web)
    meets = []
    for number, knot in enumerate(web.knots):
        goals = [web.numbers[goal] for pair in knot for _, goal in web.moves[pair]]
        meets.append(joined[number] and all([meets[goal] for goal in goals if goal < number]))
    return tuple([pair for pair in web.nodes if meets[web.numbers[pair]]])


def stuck_row(device, pair):
    """The first row that leads a pair to one that no row joins, None if the pair meets by chance."""
    check_pair(device, pair)
    web = Web(device, "pairs")
    joined = joined_knots(web)
    rows = web.rows_from(pair)
    for place in rows:
        if not joined[web.numbers[place]]:
            return rows[place]
    return None

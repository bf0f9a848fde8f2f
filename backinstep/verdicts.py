"""Devices that are told yes, those that are told no, and the papers of both."""

from backinstep.basics import (
    is_lot, is_number, is_number_to, is_row, is_sequence, is_sequence_of, is_state, is_told_pair,
)
from backinstep.classes import full_lots, outside_moves
from backinstep.devices import row_end
from backinstep.errors import NotYes, PaperFault
from backinstep.families import check_family, fills, meets_all, plain_family
from backinstep.hours import like_pairs
from backinstep.webs import Web, closed_knots, pair_moves


def told_family(device, family):
    """The tuple of any value that is a family, the plain one for None."""
    return plain_family(device) if family is None else check_family(device, family)


def wrong_parts(device, family):
    """The wrong knots for a checked family, each as (kind, web, number, lot of the family that it holds)."""
    states = Web(device, "states")
    inside = {state: True for district in closed_knots(states) for state in district}
    parts = []
    for number, lot in full_lots(states, family).items():
        if states.knots[number][0] not in inside:
            parts.append(("out", states, number, lot))
    pairs = Web(device, "pairs")
    full = full_lots(pairs, family)
    like = {pair: True for pair in like_pairs(device)} if full else {}
    for number, lot in full.items():
        if pairs.knots[number][0] in like:
            parts.append(("pair", pairs, number, lot))
    return parts


def wrong_knots(device, family=None):
    """The wrong knots: those of outsiders by number, then those of pairs of one hour."""
    parts = wrong_parts(device, told_family(device, family))
    return tuple([(kind, web.knots[number]) for kind, web, number, _ in parts])


def is_yes(device, family=None):
    """Whether fair rows bring all states into closed districts and those of one hour together."""
    return wrong_knots(device, family) == ()


def need_yes(device, family=None):
    """Raise NotYes for a device told no, with the least node of the first wrong knot."""
    knots = wrong_knots(device, family)
    if knots:
        raise NotYes(knots[0][1][0])


def node_moves(device):
    """By node, the outsiders and then the pairs of one hour, its steps to nodes."""
    moves = outside_moves(device)
    pairs = pair_moves(device)
    for pair in like_pairs(device):
        moves[pair] = pairs[pair]
    return moves


def yes_paper(device, family=None):
    """The paper of heights of all nodes, which fair rows lead down until they are gone; None for a device told no."""
    if not is_yes(device, family):
        return None
    heights = {}
    lacks = []
    moves = node_moves(device)
    for web in (Web(device, "states"), Web(device, "pairs")):
        for knot, held in zip(web.knots, web.held):
            if knot[0] in moves:
                for node in knot:
                    heights[node] = len(lacks)
                lacks.append("".join([sign for sign in device.signals if sign not in held]))
    return "yes", tuple([(node, heights[node]) for node in moves]), tuple(lacks)


def told_node(device, value):
    """The state or pair that any value is, a pair perhaps as a list; None for any other value."""
    if is_state(device, value):
        return value
    return tuple(value) if is_told_pair(device, value) else None


def check_yes(device, family, value):
    """Raise PaperFault for any value that is no paper of yes, with the place of the first fault."""
    told = told_family(device, family)
    if not is_yes_form(device, value):
        raise PaperFault(0)
    _, entries, lacks = value
    moves = node_moves(device)
    heights = {}
    for at, (place, height) in enumerate(entries):
        node = told_node(device, place)
        if node not in moves or node in heights or not is_number_to(height, 0, len(lacks) - 1):
            raise PaperFault(at + 1)
        heights[node] = height
    for at, (node, height) in enumerate(list(heights.items())):
        for sign, goal in moves[node]:
            ahead = heights.get(goal)
            if ahead is None or ahead > height or sign in lacks[height] and ahead == height:
                raise PaperFault(at + 1)
    if len(heights) < len(moves):
        raise PaperFault(-1)
    for at, lack in enumerate(lacks):
        if not meets_all(lack, told):
            raise PaperFault(len(moves) + 1 + at)


def is_yes_form(device, value):
    """Whether any value is a sequence of "yes", a sequence of sequences of two things, and a sequence of lots."""
    if not is_sequence_of(value, 3) or value[0] != "yes" or not is_sequence(value[1]) or not is_sequence(value[2]):
        return False
    entries = all([is_sequence_of(entry, 2) for entry in value[1]])
    return entries and all([is_lot(device, lack) for lack in value[2]])


def yes_holds(device, family, value):
    """Whether any value is a paper of yes."""
    try:
        check_yes(device, family, value)
    except PaperFault:
        return False
    return True


def no_paper(device, family=None):
    """The paper of a node and a round that leads it to itself, None for a device told yes."""
    parts = wrong_parts(device, told_family(device, family))
    if not parts:
        return None
    kind, web, number, lot = parts[0]
    node = web.knots[number][0]
    again = web.tour_of(number, node, lot)
    if kind == "pair" and row_end(device, node[0], again) != node[0]:
        # the two are turned about, so twice leads each to itself
        again = again + again
    return "no", node, again


def check_no(device, family, value):
    """Raise PaperFault for any value that is no paper of no, with the place of the first fault."""
    told = told_family(device, family)
    if not is_sequence_of(value, 3) or value[0] != "no":
        raise PaperFault(0)
    _, place, again = value
    node = told_node(device, place)
    if node not in node_moves(device):
        raise PaperFault(1)
    if not is_row(device, again) or not fills(told, again):
        raise PaperFault(2)
    states = (node,) if is_number(node) else node
    if not all([row_end(device, state, again) == state for state in states]):
        raise PaperFault(2)


def no_holds(device, family, value):
    """Whether any value is a paper of no."""
    try:
        check_no(device, family, value)
    except PaperFault:
        return False
    return True


def verdict_paper(device, family=None):
    """The paper of yes of a device told yes, that of no of any other one."""
    paper = yes_paper(device, family)
    return no_paper(device, family) if paper is None else paper


def verdict_holds(device, family, value):
    """Whether any value is a paper of yes or of no."""
    return yes_holds(device, family, value) or no_holds(device, family, value)

"""The names of the interface: where they stand, and with which parameters. Points [2] and [4]."""

import importlib
import inspect
import pathlib
import re
import unittest

FUNCTIONS = {
    "devices": """check_counts(device, counts) row_counts(device, row) row_lot(device, row) joined_effects(one, other)
        said_effect(effect, times) effect_places(effect) effect_left(effect) check_pieces(device, pieces)
        pieces_length(pieces) pieces_effect(device, pieces) pieces_counts(device, pieces) cut_device(device, states)
        few_signals(device, lot)""",
    "turns": "ring_numbers(turn) first_unlike(one, other)",
    "texts": "device_text(device) read_device(text)",
    "webs": "web_districts(device) outsiders(device) district_of(device, state)",
    "forms": """renamed_device(device, names) swapped_signals(device, signals) doubled_signal(device, signal)
        alike_names(one, other) own_names(device)""",
    "stairs": """is_stair(value) stair_of(width, vectors) stair_rest(stair, vector) in_stair(stair, vector)
        stair_size(stair) all_rests(stair) stair_within(one, other) sum_stair(one, other) both_stair(one, other)
        stair_parts(stair)""",
    "hours": """step_sum(hours, state, signal) device_hours(device) hour_total(device) hour_name(device, state)
        like_pairs(device) hours_paper(device) check_hours(device, value) hours_holds(device, value)""",
    "strides": """least_rings(hours) enough_number(hours) few_walk(hours, one, other, counts)
        great_walk(hours, one, other, counts)""",
    "dealings": """all_dealings(hours) joined_dealing(one, other) met_dealing(one, other) labels_dealing(hours, labels)
        is_commuting(hours, labels) widest_dial(hours, weights) is_dial(hours, weights, modulus)
        dial_at(hours, weights, modulus, state) dial_total(hours, modulus) all_dials(hours, modulus)
        hour_exponent(hours)""",
    "families": """check_family(device, family) plain_family(device) least_lots(device, family)
        is_full(device, family, lot) is_round(device, family, row) cut_places(device, family, row)
        round_count(device, family, row) is_stricter(device, one, other) either_family(device, one, other)
        both_family(device, one, other) meeting_lots(device, family)""",
    "sure": """is_sure(device, family, pair) sure_pairs(device, family) far_pairs(device, family)
        needed_lots(device, pair) weakest_family(device, pairs) apart_paper(device, family, pair)
        apart_holds(device, family, value) sure_paper(device, family) sure_holds(device, family, value)
        joining_row(device, pair) stuck_row(device, pair) chance_pairs(device)""",
    "classes": """sure_classes(device, family) chance_classes(device) class_numbers(device, family)
        class_device(device, family) fewest_notes(device, family) class_stairs(device, family)
        enough_rounds(device, family) places_bound(device, family, many) out_paper(device, family)
        out_stairs(device, family) out_holds(device, family, value)""",
    "kept": """tower_groupings(device, family) tower_numbers(device, family) most_rounds(device, family, pair)
        rounds_table(device, family) round_steps(device, family, pair) apart_row(device, family, pair, many)
        kept_numbers(device, family, pair, length) most_paper(device, family, pair)
        most_holds(device, family, pair, value) tower_device(groupings)""",
    "paced": """paced_numbers(device, family, pace) paced_classes(device, family, pace) least_pace(device, family, pair)
        endless_row(device, family, pair, pace) longest_row(device, family, pair, pace)
        longest_apart(device, family, pair, pace)""",
    "places": """most_places(device, family) places_row(device, family, many) places_kept(device, family)
        apart_rounds(device, family, states) sides_bound(device, family, many)""",
    "verdicts": """wrong_knots(device, family=None) is_yes(device, family=None) need_yes(device, family=None)
        yes_paper(device, family=None) check_yes(device, family, value) yes_holds(device, family, value)
        no_paper(device, family=None) check_no(device, family, value) no_holds(device, family, value)
        verdict_paper(device, family=None) verdict_holds(device, family, value)""",
    "stories": """unlike_paper(device) check_unlike(device, value) unlike_holds(device, value) first_exchange(device)
        told_numbers(device, counts) squares_agree(device) signals_commute(device)""",
    "entries": """joint_stair(device) joint_size(device) all_seats(device) all_entries(device) row_entries(device, row)
        three_things(device, row) made_effect(device, entries, seats, shift) made_row(device, entries, seats, shift)
        effects_total(device) joined_three(device, one, other)""",
    "counted": """rounds_of_counts(device, counts) rounds_by_hour(clocks, length, *, modulus=None)
        rounds_leaving(clocks, length, number, *, modulus=None) total_left(device, length, *, modulus=None)
        first_round(clocks, hour) first_leaving(clocks, number) settled_length(clocks) hours_at(clocks, length)
        limit_share(clocks, length, number) nth_round(clocks, length, number, place) place_of_round(clocks, row)""",
    "spaces": "moved_load(device, load, row) chain_sizes(device) is_right(device) is_which(device)",
    "lots": """lot_hours(device, lot) lot_table(device) wrong_lot(device) unlike_lot(device) spanning_rows(device)
        wrong_exchange(device) chain_paper(device) chain_holds(device, value) which_rows(device) triangle_paper(device)
        triangle_holds(device, value) lot_levels(device) closed_lot(device, lot) gathering_lots(device)
        gather_row(device) left_by_counts(device, counts)""",
    "roots": """weighted_table(device, weights) root_polynomial(device, weights) clock_polynomial(hours, lot, weights)
        weight_roots(device, weights) weight_trace(device, weights, times, modulus) check_levels(signals, value)
        star_device(signals, value) joined_levels(signals, one, other) crossed_levels(signals, one, other)
        clock_shares(device) parting_row(one, other) same_numbers(one, other)""",
    "late": """lasting_states(device, family) lasting_classes(device, family) behind_states(device, family, given)
        notes_needed(device, family, given, later) lasting_paper(device, family) lasting_holds(device, family, value)""",
    "notes": """are_enough(device, family, notes) notes_rounds(device, family, notes) fooled_paper(device, family, notes)
        fooled_holds(device, family, notes, value)""",
    "listeners": """least_listener(device, family) listener_rounds(device, family, listener)
        misled_paper(device, family, listener) misled_holds(device, family, listener, value)""",
    "mistakes": """heals_mistake(device, family, said, heard, *, states=None)
        mistaken_paper(device, family, said, heard, *, states=None) mistaken_holds(device, family, said, heard, value)
        lasting_exchange(device, family, number) heals_exchanges(device, family, number)
        kind_rows(device, family, *, most)""",
    "twain": """beside_device(one, other) uniting_row(device, number) twain_rest(one, other, state, second)
        twain_parts(one, other, first, second) meeting_hours(one, other, state, second)
        meeting_row(one, other, state, second, hour, later) meeting_counts(stairs, vectors)""",
    "groupings": """check_grouping(device, grouping) single_grouping(device) joined_grouping(device, pairs)
        is_within(device, one, other) met_grouping(device, one, other) spanned_grouping(device, one, other)
        all_groupings(device, *, most) grouped_device(device, grouping) finest_yes(device, family=None)
        finest_together(device, family=None) finest_right(device) finest_counter(device)
        finest_paper(device, family=None) check_finest(device, family, value) finest_holds(device, family, value)""",
    "beside": """union_device(one, other) row_device(device, rows) row_family(device, rows, family=None)
        is_split(device, one, other) first_split(device) split_pieces(device) yes_part(device, family=None)""",
    "mends": """more_signals(device, table) is_commuting_table(device, table) keeping_tables(device) least_places(device)
        cure_row(device) cure_paper(device) cure_holds(device, value) all_ties(device) fewest_ties(device, family=None)
        turned_device(device, turns) turn_bounds(device) fewest_turns(device, wish, *, most)""",
    "fates": """pair_fate(device, family, one, other) fate_pairs(device, family) fate_paper(device, family, one, other)
        fate_holds(device, family, one, other, value)""",
    "fleets": """state_offset(device, one, other) hour_row(hours, hour) fleet_rows(device, states)
        mend_number(device, family, one, other) mend_paper(device, family, one, other)
        mend_holds(device, family, one, other, value)""",
    "checker": """paper_kinds() made_paper(device, kind, question) check_paper(device, value) paper_holds(device, value)
        wrong_papers(device, values)""",
    "books": "value_text(value) read_value(text) book_text(book) read_book(text)",
}
CLASSES = {
    ("devices", "Device"): """__init__(tables) step(state, signal) after(state, row) effect(row) places(row)
        left_alone(row)""",
    ("turns", "Turn"): "__init__(device, row) said_at(times) left_at(times) square_at() core()",
    ("webs", "Web"): """__init__(device, kind) node_after(node, row) knot_of(node) reached(node) first_row(node, goal)
        great_lots(node) keeps(node, lot) keep_rows(node, lot) just_lots(node)""",
    ("hours", "Hours"): """__init__(device, number) hour_at(state) states_at(hour) moved_hour(hour, counts)
        is_kept(counts) turns_of(counts) hours_list()""",
    ("dealings", "Dealing"): "__init__(hours, stair)",
    ("clocks", "Clocks"): """__init__(device) joint_after(hour, row) joint_of(counts) home(hour) alone(hour)
        left_by_counts(counts) alone_numbers() hour_period(hour) whole_period() same_beat() beats() beat_of(hour)
        left_places(row) district_meet(one, other)""",
    ("kept", "Keeper"): "__init__(device, family, pair) hear(row) standing() more_rounds() next_row()",
    ("notes", "Learner"): """__init__(device, family, note) hear(row) place_told() places_open() note_now()
        rounds_heard() next_learner()""",
    ("listeners", "Listener"): """__init__(device, says, moves, starts) __eq__(other) memory_after(state, row)
        place_said(state, row)""",
    ("books", "Book"): "__init__(device, papers) __len__() __contains__(value) __eq__(other) with_paper(paper)",
    ("live", "Live"): """__init__(device, family) __len__() put_copy(state) tell_all(row, *, missed=())
        tell_one(copy, row) turn_entry(state, signal, goal) take_family(family) undo_deed() redo_deed() within(work)
        taken() together() fate(one, other) offset(one, other) fresh_rounds(copy) due_rounds(one, other) most_taken()
        private_number(one, other) private_rows()""",
    ("desk", "Desk"): "__init__() say(command)",
}
ERRORS = {
    "at": "BadDevice BadRow BadText BadPieces BadCounts BadFamily Refused PaperFault", "most": "TooGreat",
    "witness": "NotYes", "pair": "NotSure NoPair", "state": "NoState", "signal": "NoSignal",
}


def told_calls(text):
    """(name, parameters) of calls that are written one behind another."""
    calls = []
    for name, parameters in re.findall(r"(\w+)\(((?:[^()]|\(\))*)\)", text):
        calls.append((name, [word.strip() for word in parameters.split(",") if word.strip()]))
    return calls


def told_parameters(function):
    """The parameters of a function, with their default values, as they are written."""
    return [word for word in str(inspect.signature(function))[1:-1].split(", ") if word]


def told_interface():
    """By file of the package the names that the document lists under it, and by class its methods; {} without it."""
    document = pathlib.Path(__file__).resolve().parent.parent.parent / "shared" / "DOC.md"
    if not document.exists():
        return {}, {}
    names, methods = {}, {}
    for place, text in re.findall(r"^- `backinstep/(\w+)\.py`: (.*)$", document.read_text(encoding="utf-8"), re.MULTILINE):
        for name, listed in re.findall(r"class `(\w+)` \(([^)]*)\)", text):
            methods[(place, name)] = re.findall(r"`(\w+)`", listed)
        names[place] = re.findall(r"`(\w+)`", re.sub(r" \([^)]*\)", "", text))
    return names, methods


class InterfaceTest(unittest.TestCase):

    def test_every_row_of_the_interface(self):
        names, methods = told_interface()
        if not names:
            self.skipTest("the document is not here")
        self.assertEqual(len(names), 38)
        for place, listed in names.items():
            module = importlib.import_module("backinstep." + place)
            for name in listed:
                self.assertEqual(getattr(module, name).__module__, module.__name__, name)
                if place != "errors":
                    told = [told for told, _ in told_calls(FUNCTIONS.get(place, ""))] + [made for _, made in CLASSES]
                    self.assertIn(name, told)
        for (place, name), listed in methods.items():
            made = getattr(importlib.import_module("backinstep." + place), name)
            for method in listed:
                self.assertIn(method, vars(made))
                self.assertIn(method, [told for told, _ in told_calls(CLASSES[(place, name)])])

    def test_functions_stand_in_their_files_with_their_parameters(self):
        for place, text in FUNCTIONS.items():
            module = importlib.import_module("backinstep." + place)
            for name, parameters in told_calls(text):
                function = getattr(module, name)
                self.assertEqual(function.__module__, module.__name__, name)
                self.assertEqual(told_parameters(function), parameters, name)

    def test_methods_stand_in_their_classes(self):
        for (place, name), text in CLASSES.items():
            made = getattr(importlib.import_module("backinstep." + place), name)
            self.assertEqual(made.__module__, "backinstep." + place)
            for method, parameters in told_calls(text):
                self.assertIn(method, vars(made))
                self.assertEqual(told_parameters(vars(made)[method]), ["self"] + parameters)

    def test_errors_keep_what_they_are_made_with(self):
        errors = importlib.import_module("backinstep.errors")
        for field, names in ERRORS.items():
            for name in names.split():
                error = getattr(errors, name)
                kept = [("any", None), 3]
                self.assertIs(getattr(error(kept), field), kept)
                self.assertIs(getattr(error(**{field: kept}), field), kept)
                self.assertEqual(error.__module__, "backinstep.errors")

    def test_bases_of_errors(self):
        errors = importlib.import_module("backinstep.errors")
        self.assertEqual(errors.BackError.__bases__, (ValueError,))
        for names in ERRORS.values():
            for name in names.split():
                base = KeyError if name in ("NoState", "NoSignal", "NoPair") else errors.BackError
                self.assertEqual(getattr(errors, name).__bases__, (base,))


if __name__ == "__main__":
    unittest.main()

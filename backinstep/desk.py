"""A desk: commands in words to a live house, and its answers."""

from backinstep.devices import Device
from backinstep.errors import BadText
from backinstep.families import plain_family
from backinstep.live import Live
from backinstep.texts import read_number

MOST_TOLD = 999999

# by command what its words are: a number, numbers (perhaps none), a word, words, tables (both at least one)
FORMS = {
    "device": ("tables",), "family": ("words",), "all": ("word", "numbers"), "one": ("number", "word"),
    "turn": ("number", "word", "number"), "put": ("number",), "undo": (), "redo": (), "states": (), "taken": (),
    "together": (), "fleet": (), "most": (), "fresh": ("number",), "fate": ("number", "number"),
    "offset": ("number", "number"), "due": ("number", "number"), "private": ("number", "number"),
}


def read_command(command):
    """The first word of any value that is a command, and what its other words tell; BadText for any other value."""
    if not isinstance(command, str) or "\n" in command:
        raise BadText(0)
    words = command.split(" ")
    if "" in words or words[0] not in FORMS:
        raise BadText(0)
    things = []
    rest = words[1:]
    for form in FORMS[words[0]]:
        # what may be many words stands last
        many = 1 if form in ("number", "word") else len(rest)
        things.append(read_words(form, rest[:many]))
        rest = rest[many:]
    if rest:
        raise BadText(0)
    return words[0], things


def read_words(form, words):
    """What some words of a form tell."""
    if not words and form != "numbers":
        raise BadText(0)
    if form == "words":
        return words
    if form == "word":
        return words[0]
    if form == "tables":
        return [read_numbers(word.split(",")) for word in words]
    numbers = read_numbers(words)
    return numbers[0] if form == "number" else numbers


def read_numbers(words):
    """The numbers that some words write."""
    numbers = tuple([read_number(word, MOST_TOLD) for word in words])
    if -1 in numbers:
        raise BadText(0)
    return numbers


def told_text(words):
    """Some words as a text, "none" for none."""
    return " ".join(words) if words else "none"


def numbers_text(numbers, between):
    """Numbers as a text, "none" for None and for none."""
    return between.join([str(number) for number in numbers]) if numbers else "none"


def number_text(number):
    """A number as a text, "none" for None."""
    return "none" if number is None else str(number)


class Desk:
    """Does commands, and tells what came of them."""

    def __init__(self):
        self.live = None

    def say(self, command):
        """Do a command; returns its answer."""
        word, things = read_command(command)
        if word == "device":
            device = Device(things[0])
            self.live = Live(device, plain_family(device))
            return "ok"
        if self.live is None:
            raise BadText(0)
        if word in ("family", "all", "one", "turn", "put", "undo", "redo"):
            return do_deed(self.live, word, things)
        return asked_text(self.live, word, things) if things else standing_text(self.live, word)


def do_deed(live, word, things):
    """Do the deed of a command; returns its answer."""
    if word == "put":
        return str(live.put_copy(things[0]))
    if word == "undo":
        return "ok" if live.undo_deed() else "nothing"
    if word == "redo":
        return "ok" if live.redo_deed() else "nothing"
    if word == "family":
        live.take_family(things[0])
    elif word == "all":
        live.tell_all(things[0], missed=things[1])
    elif word == "one":
        live.tell_one(things[0], things[1])
    else:
        live.turn_entry(things[0], things[1], things[2])
    return "ok"


def standing_text(live, word):
    """The answer to a command that asks how all stands."""
    if word == "states":
        return numbers_text(live.states, " ")
    if word == "taken":
        return numbers_text(live.taken(), " ")
    if word == "together":
        return told_text([numbers_text(group, ",") for group in live.together()])
    if word == "most":
        return str(live.most_taken())
    rows = live.private_rows() if live.states else None
    return "none" if rows is None else told_text([row if row != "" else "-" for row in rows])


def asked_text(live, word, things):
    """The answer to a command that asks of one copy or of two."""
    if word == "fresh":
        return str(live.fresh_rounds(things[0]))
    one, other = things
    if word == "fate":
        return live.fate(one, other)
    if word == "offset":
        return numbers_text(live.offset(one, other), ",")
    return number_text(live.due_rounds(one, other) if word == "due" else live.private_number(one, other))

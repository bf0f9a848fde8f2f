"""Values as texts, and books of told papers."""

from backinstep.basics import is_integer, is_sequence
from backinstep.checker import paper_holds
from backinstep.errors import BadText, PaperFault, Refused
from backinstep.texts import DIGITS, device_text, read_device

MOST_WITHIN = 12
MOST_FIGURES = 60
GREAT_NUMBER = 10 ** 60
QUOTE = '"'


def is_sign(sign):
    """Whether a sign can stand in the text of a string."""
    return " " <= sign <= "~" and sign != QUOTE


def has_text(value, room):
    """Whether any value has a text, with at most so many tuples within one another."""
    if value is None or isinstance(value, bool):
        return True
    if is_integer(value):
        return -GREAT_NUMBER < value < GREAT_NUMBER
    if isinstance(value, str):
        return all([is_sign(sign) for sign in value])
    return isinstance(value, tuple) and room > 0 and all([has_text(item, room - 1) for item in value])


def value_text(value):
    """The text of an integer, a string, None, a bool, or a tuple of such."""
    if not has_text(value, MOST_WITHIN):
        raise Refused(value)
    return text_of(value)


def text_of(value):
    """The text of a value that is known to have one."""
    if value is None:
        return "-"
    if isinstance(value, bool):
        return "yes" if value else "no"
    if isinstance(value, str):
        return QUOTE + value + QUOTE
    if isinstance(value, tuple):
        return "(" + " ".join([text_of(item) for item in value]) + ")"
    return str(value)


def read_value(text):
    """The value of a text, or BadText with the place from which no text of a value goes on like this one."""
    if not isinstance(text, str):
        raise BadText(-1)
    value, end = value_at(text, 0, MOST_WITHIN)
    if end < len(text):
        raise BadText(end)
    return value


def value_at(text, at, room):
    """The value whose text begins at a place, and the place behind it."""
    sign = text[at:at + 1]
    if sign == "(" and room > 0:
        return tuple_at(text, at, room)
    if sign == QUOTE:
        return string_at(text, at)
    if sign == "y":
        return True, word_end(text, at, "yes")
    if sign == "n":
        return False, word_end(text, at, "no")
    if sign == "" or sign not in "-" + DIGITS:
        raise BadText(at)
    return number_at(text, at)


def tuple_at(text, at, room):
    """The tuple whose text begins at a place, and the place behind it."""
    items = []
    place = at + 1
    if text[place:place + 1] == ")":
        return (), place + 1
    while True:
        item, place = value_at(text, place, room - 1)
        items.append(item)
        sign = text[place:place + 1]
        if sign == ")":
            return tuple(items), place + 1
        if sign != " ":
            raise BadText(place)
        place += 1


def string_at(text, at):
    """The string whose text begins at a place, and the place behind it."""
    place = at + 1
    while place < len(text) and is_sign(text[place]):
        place += 1
    if text[place:place + 1] != QUOTE:
        raise BadText(place)
    return text[at + 1:place], place + 1


def word_end(text, at, word):
    """The place behind a word that begins at a place."""
    for place, sign in enumerate(word):
        if text[at + place:at + place + 1] != sign:
            raise BadText(at + place)
    return at + len(word)


def number_at(text, at):
    """The integer whose text begins at a place, None for a lone sign of less, and the place behind it."""
    start = at + 1 if text[at] == "-" else at
    place = start
    while place < len(text) and text[place] in DIGITS:
        # nothing stands behind a nought, and no nought behind the sign of less
        wrong = text[start] == "0" and (place > start or start > at)
        if wrong or place - start == MOST_FIGURES:
            raise BadText(place)
        place += 1
    return (None if place == start else int(text[at:place])), place


def tupled(value):
    """Any value with tuples in the place of lists."""
    return tuple([tupled(item) for item in value]) if is_sequence(value) else value


def is_same(value, told):
    """Whether any value is equal to one with a text; a bool is equal to no integer."""
    if isinstance(told, tuple):
        if not isinstance(value, tuple) or len(value) != len(told):
            return False
        return all([is_same(item, part) for item, part in zip(value, told)])
    return isinstance(value, bool) == isinstance(told, bool) and value == told


def is_bookable(device, value):
    """Whether any value is a told paper that holds and, its lists taken as tuples, has a text."""
    return paper_holds(device, value) and has_text(tupled(value), MOST_WITHIN)


class Book:
    """A device and told papers that hold for it."""

    def __init__(self, device, papers):
        if not is_sequence(papers):
            raise PaperFault(-1)
        for at, paper in enumerate(papers):
            if not is_bookable(device, paper):
                raise PaperFault(at)
        self.device = device
        self.papers = tupled(papers)

    def __len__(self):
        return len(self.papers)

    def __contains__(self, value):
        return any([is_same(value, paper) for paper in self.papers])

    def __eq__(self, other):
        return isinstance(other, Book) and self.device == other.device and self.papers == other.papers

    def with_paper(self, paper):
        """The book with one told paper more at the end."""
        if not is_bookable(self.device, paper):
            raise PaperFault(len(self.papers))
        book = Book(self.device, ())
        book.papers = self.papers + (tupled(paper),)
        return book


def book_text(book):
    """The text of a book: that of its device, an empty line, and a line for each paper."""
    return "\n".join([device_text(book.device), ""] + [text_of(paper) for paper in book.papers])


def read_book(text):
    """The book of a text, or BadText with the first line that is wrong, lacks, or whose paper does not hold."""
    if not isinstance(text, str):
        raise BadText(0)
    lines = text.split("\n")
    head = lines.index("") if "" in lines else len(lines)
    book = Book(read_device("\n".join(lines[:head])), ())
    if head == len(lines):
        raise BadText(head + 1)
    for at, line in enumerate(lines[head + 1:]):
        try:
            book = book.with_paper(read_value(line))
        except (BadText, PaperFault):
            raise BadText(head + at + 2) from None
    return book

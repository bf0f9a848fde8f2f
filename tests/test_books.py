"""Values as texts, and books: points [88] and [89]."""

import itertools
import re
import unittest

from backinstep.books import Book, book_text, read_book, read_value, value_text
from backinstep.checker import made_paper
from backinstep.devices import Device
from backinstep.errors import BadText, PaperFault, Refused
from backinstep.texts import device_text
from tests.plain import Case, Draw, any_values, listed, same, small_devices
from tests.test_checker import LINE, all_made

ATOM = re.compile(r"yes|no|-?[1-9][0-9]{0,59}|0|-")
GROUP = re.compile(r"\(\)|\(v( v)*\)")


def is_text(text):
    """Whether a text is that of a value: atoms are written as v, then the innermost tuples, at most twelve times."""
    bare = re.sub(r'"[ -!#-~]*"', "V", text)
    if "v" in bare:
        return False
    bare = ATOM.sub("v", bare.replace("V", "v"))
    for _ in range(12):
        bare = GROUP.sub("v", bare)
    return bare == "v"


ENDS = [first + ")" * many for first in ("", '"', "0", "1", "es", "s", "o") for many in range(13)]


def plain_fault(text):
    """The place from which no text of a value goes on like this one, None for one itself."""
    if is_text(text):
        return None
    for at in range(len(text)):
        if not any(is_text(text[:at + 1] + end) for end in ENDS):
            return at
    return len(text)


def nested(many, value=0):
    for _ in range(many):
        value = (value,)
    return value


def drawn_value(draw, room=4):
    kind = draw.below(9 if room else 6)
    if kind < 3:
        return (None, True, False)[kind]
    if kind == 3:
        return draw.below(30) - 15
    if kind == 4:
        return (draw.below(10 ** 9) * 10 ** 51 + draw.below(10 ** 9)) * (1 if draw.below(2) else -1)
    if kind == 5:
        return "".join(chr(32 + draw.below(95)) for _ in range(draw.below(6))).replace('"', "")
    return tuple(drawn_value(draw, room - 1) for _ in range(draw.below(4)))


class ValueTest(Case):

    def test_told(self):
        for value, text in ((None, "-"), (True, "yes"), (False, "no"), (0, "0"), (-7, "-7"), ("", '""'), ("a (b", '"a (b"'),
                            ((), "()"), ((5,), "(5)"), ((1, (), ("ab", None)), '(1 () ("ab" -))'), ((True, -1), "(yes -1)")):
            self.assertEqual(value_text(value=value), text)
            self.assertTrue(same(read_value(text=text), value))

    def test_inverse(self):
        draw = Draw(661)
        for _ in range(800):
            value = drawn_value(draw)
            text = value_text(value)
            self.assertTrue(is_text(text) and all(" " <= sign <= "~" for sign in text))
            self.assertTrue(same(read_value(text), value))
            # bent texts: either that of another value or refused at the very place
            at = draw.below(len(text) + 1)
            sign = draw.one_of('()-" 0159yesno~\n\t\x7fx')
            for bent in (text[:at] + sign + text[at:], text[:at] + text[at + 1:], text[:at] + sign + text[at + 1:], text[:at],
                         text + sign):
                self.check_text(bent)

    def check_text(self, text):
        fault = plain_fault(text)
        if fault is None:
            self.assertEqual(value_text(read_value(text)), text)
        else:
            self.refuses(BadText, fault, read_value, text)

    def test_all_short_texts(self):
        many = 0
        for length in range(6):
            for signs in itertools.product('()-" 01y', repeat=length):
                text = "".join(signs)
                if length < 5 or text[0] in '(-"':
                    many += 1
                    if many % 7 == 0 or length < 4:
                        self.check_text(text)
        for text in ("", "y", "ye", "yes", "yess", "ys", "n", "no", "not", "noo", "(yes no)", "(yesno)", "( 1)", "(1 )", "(1  2)",
                     "()()", "() ", " ()", "1 2", "-", "--", "-0", "-01", "00", "01", "1-", "(- -1)", "(--1)", '"', '"a', '"a"b',
                     '"\n"', '"\x7f"', '"~"', "\u00e9", '"\u00e9"', "(", "((", "(1", "(1 ", ")", "+1", "1_0", "1.0", "None", "True",
                     "\u0661"):
            self.check_text(text)

    def test_figures(self):
        for sign in ("", "-"):
            sixty = sign + "9" * 60
            self.assertEqual(read_value(sixty), int(sixty))
            self.assertEqual(value_text(int(sixty)), sixty)
            self.refuses(BadText, len(sixty), read_value, sixty + "0")
            self.refuses(BadText, 1 + len(sixty), read_value, "(" + sixty + "0)")
            great = int(sign + "1" + "0" * 60)
            self.refuses(Refused, great, value_text, great)
            self.refuses(Refused, (1, great), value_text, (1, great))

    def test_nested(self):
        self.assertEqual(value_text(nested(12)), "(" * 12 + "0" + ")" * 12)
        self.assertTrue(same(read_value("(" * 12 + "0" + ")" * 12), nested(12)))
        self.assertTrue(same(read_value("(" * 12 + ")" * 12), nested(11, ())))
        for value in (nested(13), nested(12, ()), nested(40), (1, nested(12))):
            self.refuses(Refused, value, value_text, value)
        for text in ("(" * 13 + "0" + ")" * 13, "(" * 13 + ")" * 13, "(" * 20):
            self.refuses(BadText, 12, read_value, text)
        self.refuses(BadText, 12, read_value, "(" * 12)
        self.refuses(BadText, 14, read_value, "(" * 12 + "0 (" + ")" * 13)

    def test_any_value(self):
        for value in any_values():
            if not self.has_text(value):
                self.refuses(Refused, value, value_text, value)
                self.refuses(Refused, (1, value), value_text, (1, value))
            else:
                self.assertTrue(same(read_value(value_text(value)), value))
            if not isinstance(value, str):
                self.refuses(BadText, -1, read_value, value)
            else:
                self.check_text(value)
        for wrong in ('"', "a\nb", "\t", "\x7f", "\u00e9", "ab\"c"):
            self.refuses(Refused, wrong, value_text, wrong)

    def has_text(self, value, room=12):
        if value is None or isinstance(value, bool):
            return True
        if isinstance(value, int):
            return abs(value) < 10 ** 60
        if isinstance(value, str):
            return all(" " <= sign <= "~" and sign != '"' for sign in value)
        return isinstance(value, tuple) and room > 0 and all(self.has_text(item, room - 1) for item in value)

    def test_long(self):
        value = tuple((state, "abc" * 10, None) for state in range(4000))
        text = value_text(value)
        self.assertGreater(len(text), 150000)
        self.assertEqual(read_value(text), value)
        self.refuses(BadText, len(text) + 1, read_value, text[:-1] + " 1")


class BookTest(Case):

    def books(self, seed, many):
        books = {}
        for device, paper in all_made(seed, many, states=3):
            books.setdefault(device.tables, (device, []))[1].append(paper)
        return list(books.values())

    def test_books(self):
        for device, papers in self.books(671, 25):
            book = Book(device=device, papers=papers)
            self.assertEqual(book.device, device)
            self.assertTrue(same(book.papers, tuple(map(self.tupled, papers))))
            self.assertEqual(len(book), len(papers))
            for paper in papers:
                self.assertIs(self.tupled(paper) in book, True)
            self.assertTrue(book == Book(device, tuple(listed_paper(paper) for paper in papers)))
            short = Book(device, papers[:-1])
            self.assertFalse(book == short)
            self.assertTrue(short.with_paper(paper=papers[-1]) == book)
            self.assertEqual(len(short), len(papers) - 1)
            text = book_text(book=book)
            self.assertEqual(text.split("\n"), device_text(device).split("\n") + [""] + [
                value_text(paper) for paper in book.papers])
            self.assertTrue(read_book(text=text) == book)

    def tupled(self, value):
        return tuple(map(self.tupled, value)) if isinstance(value, (list, tuple)) else value

    def test_no_paper(self):
        book = Book(LINE, [])
        self.assertEqual((len(book), book.papers, book_text(book)), (0, (), device_text(LINE) + "\n"))
        self.assertTrue(read_book(book_text(book)) == book)
        self.assertFalse(book == Book(Device([(0, 0, 1, 3), (0, 1, 2, 2)]), ()))

    def test_later_changes_have_no_effect(self):
        kind, question, paper = made_paper(LINE, "sure", (["ab"],))
        papers = [(kind, question, listed(paper))]
        book = Book(LINE, papers)
        text = book_text(book)
        question[0].append("a")
        papers[0][2][1].clear()
        papers.append(None)
        self.assertEqual((book_text(book), len(book)), (text, 1))

    def test_members(self):
        paper = made_paper(LINE, "fate", (("ab",), 0, 1))
        book = Book(LINE, [paper, made_paper(LINE, "cure", ())])
        self.assertEqual(paper[1], (("ab",), 0, 1))
        for value in any_values():
            self.assertIs(value in book, False)
            self.assertIs((value, paper[1], paper[2]) in book, False)
            self.assertIs((paper[0], value, paper[2]) in book, False)
            self.assertIs(paper[:2] + (value,) in book, False)
        self.assertIs(("fate", (("ab",), False, True), paper[2]) in book, False)
        self.assertIs(("fate", (("ab",), 0, 1), paper[2]) in book, True)
        self.assertIs(paper[:2] in book, False)
        self.assertIs(book == paper, False)
        self.assertTrue(book != Book(LINE, [paper]))

    def test_wrong_papers(self):
        good = made_paper(LINE, "sure", (("ab",),))
        for value in any_values():
            if not isinstance(value, (list, tuple)):
                self.refuses(PaperFault, -1, Book, LINE, value)
            for at in range(3):
                papers = [good] * 2
                papers.insert(at, value)
                self.refuses(PaperFault, at, Book, LINE, papers)
            book = Book(LINE, [good, good])
            self.refuses(PaperFault, 2, book.with_paper, value)
            self.assertEqual(book.papers, (good, good))
        self.refuses(PaperFault, 0, Book, LINE, ("sure", ("ab",), good[2]))
        self.refuses(PaperFault, 1, Book, LINE, [good, listed(good), None])
        self.refuses(PaperFault, 0, Book, Device([(0, 1)]), [good])

    def test_papers_without_a_text(self):
        device = Device([(1, 2, 3, 0), (1, 0, 1, 0)])
        _, _, (word, entries) = made_paper(device, "hours", ())
        district, walks, stair, shares = entries[0]
        state, sign, times = shares[0][0]
        for great, fits in ((10 ** 60 - abs(times) - 1, True), (10 ** 60, False)):
            more = ((state, sign, times + great), (state, sign, -great)) + shares[0][1:]
            paper = ("hours", (), (word, ((district, walks, stair, (more,) + shares[1:]),)))
            if fits:
                self.assertEqual(read_book(book_text(Book(device, [paper]))).papers, (paper,))
            else:
                self.refuses(PaperFault, 0, Book, device, [paper])
                self.refuses(PaperFault, 0, Book(device, []).with_paper, paper)

    def test_wrong_texts(self):
        for device, papers in self.books(672, 12):
            lines = book_text(Book(device, papers)).split("\n")
            head = len(device.signals) + 1
            for at, line in enumerate(lines):
                if at != head:
                    for bent in (line + " ", " " + line, line[:-1], "x"):
                        self.check_lines(lines[:at] + [bent] + lines[at + 1:], at + 1)
            # no line, and one line, too many or too few
            for many in range(head + 1):
                self.check_lines(lines[:many], many + 1 if many > 1 else max(many, 1) + (many == 1))
            self.check_lines(lines[:head] + lines[head + 1:], head + 1)
            self.check_lines(lines + [""], len(lines) + 1)
            self.check_lines(lines[:head + 1] + [""] + lines[head + 1:], head + 2)

    def check_lines(self, lines, wrong):
        self.refuses(BadText, wrong, read_book, "\n".join(lines))

    def test_told_lines(self):
        for text, wrong in (("", 1), ("states 2", 2), ("states 2\n", 2), ("states 2\n\n", 2), ("states 2\na 0 1", 3), ("\n", 1),
                            ("states 2\na 0 1\nb 0 2\n", 3), ("states 2\na 0 1\nc 0 1\n", 3), ("states 2\na 0 1\n\n", 4),
                            ("states 2\na 0 1\n\nyes", 4), ('states 2\na 0 1\n\n("hours" () ("hours" ()))', 4),
                            ("states 1\na 0\nb 0\nc 0\nd 0\ne 0\nf 0\n", 7), ("states 1\na 0\nb 0\nc 0\nd 0\ne 0", 7),
                            ('states 2\na 0 1\n\n("cure" () ("row" ""))\n("cure" () ("row" "b"))\n(', 5),
                            ('states 2\na 0 1\n\n("cure" () ("row" ""))\n(\n("cure" () ("row" "b"))', 5)):
            self.refuses(BadText, wrong, read_book, text)
        book = read_book('states 2\na 0 1\n\n("cure" () ("row" ""))')
        self.assertEqual((book.device, book.papers), (Device([(0, 1)]), (("cure", (), ("row", "")),)))
        self.assertEqual(read_book("states 2\na 0 1\n").papers, ())
        for value in any_values():
            if not isinstance(value, str):
                self.refuses(BadText, 0, read_book, value)

    def test_long_book(self):
        papers = [made_paper(LINE, "sure", (("ab",),)), made_paper(LINE, "hours", ())] * 200
        text = book_text(Book(LINE, papers))
        self.assertGreater(len(text), 15000)
        self.assertEqual(len(read_book(text)), 400)

    def test_small_devices(self):
        for device in small_devices(673, 10):
            self.assertTrue(read_book(device_text(device) + "\n") == Book(device, []))


def listed_paper(paper):
    """The told paper with lists in all places where sequences will do."""
    kind, question, value = paper
    if kind in ("apart", "most"):
        return kind, (listed(question[0]), question[1]), listed(value)
    return kind, tuple(listed(thing) for thing in question), listed(value)


if __name__ == "__main__":
    unittest.main()

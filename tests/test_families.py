"""Families, rounds and cuts: points [22] and [23]."""

import functools
import itertools
import unittest

from backinstep.devices import Device
from backinstep.errors import BadFamily, BadRow, Refused
from backinstep.families import (
    both_family, check_family, cut_places, either_family, is_full, is_round, is_stricter, least_lots, meeting_lots,
    plain_family, round_count,
)
from tests.plain import Case, Draw, any_values, is_tupled, lots_of, rows_to

ONE = Device([(0, 1)])
TWO = Device([(0, 1), (1, 0)])
THREE = Device([(0, 1), (1, 0), (0, 0)])
FIVE = Device([(0, 1)] * 5)


def all_families(signals, most):
    lots = lots_of(signals)
    return [list(family) for many in range(1, most + 1) for family in itertools.combinations(lots, many)]


def plain_round(family, row):
    return any(set(lot) <= set(row) for lot in family)


def told_order(lots):
    return tuple(sorted(lots, key=lambda lot: (len(lot), lot)))


class FamilyTest(Case):

    def test_check(self):
        self.assertEqual(check_family(THREE, ["ab", "c", "abc"]), ("ab", "c", "abc"))
        self.assertEqual(check_family(device=FIVE, family=lots_of("abcde")), tuple(lots_of("abcde")))
        self.assertEqual((plain_family(FIVE), plain_family(device=ONE)), (("abcde",), ("a",)))
        family = ["ab", "c"]
        told = check_family(THREE, family)
        family.append("d")
        self.assertEqual(told, ("ab", "c"))

    def test_wrong_families(self):
        calls = [
            lambda family: check_family(TWO, family), lambda family: least_lots(TWO, family),
            lambda family: is_full(TWO, family, None), lambda family: is_round(TWO, family, None),
            lambda family: cut_places(TWO, family, None), lambda family: round_count(TWO, family, None),
            lambda family: is_stricter(TWO, family, None), lambda family: is_stricter(TWO, ["a"], family),
            lambda family: either_family(TWO, family, None), lambda family: either_family(TWO, ["a"], family),
            lambda family: both_family(TWO, family, None), lambda family: both_family(TWO, ["a"], family),
            lambda family: meeting_lots(TWO, family),
        ]
        for call in calls:
            for value in any_values():
                if not isinstance(value, (list, tuple)) or len(value) == 0:
                    self.refuses(BadFamily, -1, call, value)
                if not isinstance(value, str) or value not in ("a", "b", "ab"):
                    self.refuses(BadFamily, 0, call, [value])
                    self.refuses(BadFamily, 0, call, (value, "a"))
                    self.refuses(BadFamily, 1, call, ("ab", value))
                    self.refuses(BadFamily, 2, call, ["b", "a", value, value])
            self.refuses(BadFamily, 1, call, ["a", "a"])
            self.refuses(BadFamily, 3, call, ["a", "ab", "b", "ab"])
            self.refuses(BadFamily, 0, call, ["ba"])
            self.refuses(BadFamily, 0, call, ["c"])
            self.refuses(BadFamily, -1, call, ["a"] * 32)
            self.refuses(BadFamily, -1, call, [None] * 40)
            self.refuses(BadFamily, 3, call, ["a", "b", "ab"] + ["a"] * 28)

    def test_rounds(self):
        for family in all_families("abc", 2):
            for row in rows_to("abc", 4):
                self.assertIs(is_round(THREE, tuple(family), row), plain_round(family, row))
            for lot in [""] + lots_of("abc"):
                self.assertIs(is_full(THREE, family, lot), plain_round(family, lot))
        self.assertFalse(is_round(device=THREE, family=["a"], row=""))
        self.assertTrue(is_full(device=THREE, family=["a"], lot="ab"))

    def test_wrong_lots_and_rows(self):
        for value in any_values() + ["ba", "abc"]:
            if not isinstance(value, str) or value not in ("", "a", "b", "ab"):
                self.refuses(Refused, value, is_full, TWO, ["ab"], value)
            if not isinstance(value, str):
                for call in (is_round, cut_places, round_count):
                    self.refuses(BadRow, -1, call, TWO, ["ab"], value)
        for call in (is_round, cut_places, round_count):
            self.refuses(BadRow, 1, call, TWO, ["ab"], "acb")
            self.refuses(BadRow, 10000, call, TWO, ["ab"], "ab" * 5001)
        self.assertEqual(round_count(TWO, ["ab"], "ab" * 5000), 5000)
        self.assertEqual(cut_places(TWO, ["ab"], "ab" * 5000), tuple(range(2, 10001, 2)))
        self.assertEqual(cut_places(TWO, ["a", "b"], "b" * 10000), tuple(range(1, 10001)))

    def test_cuts(self):
        draw = Draw(101)
        families = all_families("abc", 3)
        for _ in range(150):
            family = draw.one_of(families)
            row = draw.row(THREE, draw.below(9))
            cuts, start = [], 0
            for at in range(1, len(row) + 1):
                if plain_round(family, row[start:at]):
                    cuts.append(at)
                    start = at
            self.assertEqual(cut_places(THREE, family, row), tuple(cuts))
            self.assertEqual(cut_places(device=THREE, family=family, row=row), tuple(cuts))
            self.assertEqual(round_count(device=THREE, family=family, row=row), len(cuts))

            @functools.cache
            def most(at):
                ways = [1 + most(end) for end in range(at + 1, len(row) + 1) if plain_round(family, row[at:end])]
                return max(ways, default=0)

            self.assertEqual(most(0), len(cuts))
        self.assertEqual((cut_places(THREE, ["ab"], "aacbab"), cut_places(THREE, ["ab"], "")), ((4, 6), ()))


class OrderTest(Case):

    def test_least_lots(self):
        for family in all_families("abc", 3):
            least = [lot for lot in family if not any(set(other) < set(lot) for other in family)]
            self.assertEqual(least_lots(THREE, family[::-1]), told_order(least))
        self.assertEqual(least_lots(device=FIVE, family=lots_of("abcde")), ("a", "b", "c", "d", "e"))
        self.assertEqual(least_lots(THREE, ["bc", "a", "ab"]), ("a", "bc"))

    def test_two_families_by_all_rows(self):
        rows = list(rows_to("abc", 3))
        families = all_families("abc", 2)
        rounds = {tuple(family): {row for row in rows if plain_round(family, row)} for family in families}
        for one, other in itertools.product(families[::2], families[1::2]):
            mine, theirs = rounds[tuple(one)], rounds[tuple(other)]
            self.assertIs(is_stricter(THREE, one, tuple(other)), mine <= theirs)
            either, both = either_family(THREE, one, other), both_family(THREE, one, other)
            self.assertEqual({row for row in rows if plain_round(either, row)}, mine | theirs)
            self.assertEqual({row for row in rows if plain_round(both, row)}, mine & theirs)
            for made in (either, both):
                self.assertEqual(made, least_lots(THREE, made))
                self.assertTrue(is_tupled(made))
        self.assertTrue(is_stricter(device=THREE, one=["abc"], other=["a"]))
        self.assertEqual(either_family(device=THREE, one=["bc"], other=["a", "abc"]), ("a", "bc"))
        self.assertEqual(both_family(device=THREE, one=["bc"], other=["a", "c"]), ("bc",))

    def test_meeting_lots(self):
        for family in all_families("abc", 3):
            meeting = [lot for lot in lots_of("abc") if all(set(lot) & set(told) for told in family)]
            least = [lot for lot in meeting if not any(set(other) < set(lot) for other in meeting)]
            self.assertEqual(meeting_lots(THREE, family), told_order(least))
            # whoever meets all that meet a family has all signals of one of it
            self.assertEqual(meeting_lots(THREE, meeting_lots(THREE, family)), least_lots(THREE, family))
        self.assertEqual(meeting_lots(device=FIVE, family=["abcde"]), ("a", "b", "c", "d", "e"))
        self.assertEqual(meeting_lots(FIVE, ["ab", "cd"]), ("ac", "ad", "bc", "bd"))


if __name__ == "__main__":
    unittest.main()

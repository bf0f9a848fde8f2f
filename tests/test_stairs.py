"""Staircases: points [14] and [15]."""

import fractions
import itertools
import math
import unittest

from backinstep.errors import Refused, TooGreat
from backinstep.stairs import (
    all_rests, both_stair, in_stair, is_stair, stair_of, stair_parts, stair_rest, stair_size, stair_within, sum_stair,
)
from tests.plain import Case, Draw, any_values, bends, is_tupled, listed

GREAT = 10 ** 18


def plain_is_stair(value):
    if not isinstance(value, (list, tuple)) or not 1 <= len(value) <= 5:
        return False
    for index, row in enumerate(value):
        if not isinstance(row, (list, tuple)) or len(row) != len(value) or any(type(n) is not int for n in row):
            return False
        if any(row[at] != 0 for at in range(index)) or row[index] < 1:
            return False
    return all(0 <= value[index][at] < value[at][at] for at in range(len(value)) for index in range(at))


def minor(rows):
    """The determinant of a square of integers."""
    if not rows:
        return 1
    return sum((-1) ** at * rows[0][at] * minor([row[:at] + row[at + 1:] for row in rows[1:]]) for at in range(len(rows)))


def rank(rows):
    rows = [[fractions.Fraction(number) for number in row] for row in rows]
    many = 0
    for at in range(len(rows[0]) if rows else 0):
        pivots = [row for row in rows if row[at] != 0]
        if pivots:
            many += 1
            rows = [[n - row[at] / pivots[0][at] * m for n, m in zip(row, pivots[0])] for row in rows if row is not pivots[0]]
    return many


def drawn_stair(draw, width, most=4):
    steps = [1 + draw.below(most) for _ in range(width)]
    return tuple(
        tuple([0] * index + [steps[index]] + [draw.below(steps[at]) for at in range(index + 1, width)])
        for index in range(width))


def drawn_vector(draw, width, size):
    return tuple(draw.below(2 * size + 1) - size for _ in range(width))


def box(width, size):
    return itertools.product(range(-size, size + 1), repeat=width)


def sums_of(rows, many):
    """The sums of some rows, each from 0 to below `many` times."""
    for times in itertools.product(range(many), repeat=len(rows)):
        yield tuple(sum(t * row[at] for t, row in zip(times, rows)) for at in range(len(rows)))


class StairTest(Case):

    def test_is_stair(self):
        for value in any_values() + [((1,),), [[3]], ((1, 0), (0, 1)), ((1, 1), (0, 1)), ((2, 0), (1, 1)), ((0,),)]:
            self.assertIs(is_stair(value), plain_is_stair(value))
            self.assertIs(is_stair(value=(value,)), plain_is_stair((value,)))
        draw = Draw(51)
        for width in range(1, 6):
            for _ in range(20):
                stair = drawn_stair(draw, width)
                self.assertTrue(is_stair(stair) and is_stair(listed(stair)))
                for bent in bends(stair, draw, any_values()):
                    self.assertIs(is_stair(bent), plain_is_stair(bent))
        unit = tuple(tuple(int(at == index) for at in range(6)) for index in range(6))
        self.assertFalse(is_stair(unit))
        self.assertTrue(is_stair(((10 ** 90,),)))
        self.assertFalse(is_stair(((True,),)))
        self.assertFalse(is_stair(((2, False), (0, 1))))

    def test_stair_of(self):
        draw = Draw(52)
        for width in range(1, 6):
            for _ in range(40):
                vectors = [drawn_vector(draw, width, draw.one_of((1, 3, 9, GREAT))) for _ in range(draw.below(8))]
                if draw.below(3) == 0 and vectors:
                    vectors = [row[:-1] + (row[0],) for row in vectors]
                ranks = [rank([row[:at] for row in vectors]) for at in range(width + 1)]
                flat = [at for at in range(width) if ranks[at + 1] == ranks[at]]
                if flat:
                    self.refuses(Refused, flat[0], stair_of, width, vectors)
                    continue
                stair = stair_of(width, [list(row) for row in vectors])
                self.assertTrue(plain_is_stair(stair) and is_tupled(stair))
                self.assertTrue(all(in_stair(stair, row) for row in vectors))
                # as many rests as the sums of the vectors have: so each row is a sum of them
                whole = math.gcd(*[minor([list(row) for row in rows]) for rows in itertools.combinations(vectors, width)])
                self.assertEqual(stair_size(stair), whole)

    def test_stair_of_edges(self):
        self.assertEqual(stair_of(width=1, vectors=[[-6], (4,)]), ((2,),))
        self.assertEqual(stair_of(2, ((3, 5), (3, 2), [0, 0])), ((3, 2), (0, 3)))
        self.refuses(Refused, 0, stair_of, 3, [])
        self.refuses(Refused, 0, stair_of, 2, [(0, 1)])
        self.refuses(Refused, 1, stair_of, 2, [(2, 4), (1, 2)])
        self.refuses(Refused, 2, stair_of, 3, [(1, 0, 0), (0, 1, 1)])
        self.refuses(Refused, 1, stair_of, 3, [(1, 0, 0), (0, 0, 1)])
        draw = Draw(53)
        vectors = [drawn_vector(draw, 5, GREAT) for _ in range(40)]
        unchanged = list(vectors)
        self.assertEqual(stair_size(stair_of(5, vectors)), 1)
        self.assertEqual(vectors, unchanged)
        self.refuses(Refused, 4, stair_of, 5, [row[:4] + (row[0] - row[1] + row[2],) for row in vectors])

    def test_rests(self):
        draw = Draw(54)
        for width in range(1, 4):
            for _ in range(15):
                stair = drawn_stair(draw, width)
                inside = set(sums_of(stair, 5)) | {tuple(-n for n in row) for row in sums_of(stair, 5)}
                rests = all_rests(stair)
                steps = [range(stair[at][at]) for at in range(width)]
                self.assertEqual(rests, tuple(itertools.product(*steps)))
                self.assertEqual(stair_size(stair), len(rests))
                for vector in box(width, 3):
                    rest = stair_rest(listed(stair), list(vector))
                    self.assertIn(rest, rests)
                    less = tuple(n - m for n, m in zip(vector, rest))
                    self.assertTrue(in_stair(stair, less))
                    self.assertEqual(in_stair(stair, vector), not any(rest))
                for vector in inside:
                    self.assertEqual(stair_rest(stair=stair, vector=vector), (0,) * width)
                    self.assertTrue(in_stair(stair=stair, vector=vector))

    def test_great_rests(self):
        stair = ((10 ** 6, 999999, 5), (0, 10 ** 6, 7), (0, 0, 10 ** 6))
        vector = (GREAT, -GREAT, GREAT - 1)
        rest = stair_rest(stair, vector)
        self.assertTrue(all(0 <= number < 10 ** 6 for number in rest))
        self.assertTrue(in_stair(stair, tuple(n - m for n, m in zip(vector, rest))))
        self.assertEqual(stair_size(stair), GREAT)
        self.refuses(TooGreat, 10000, all_rests, stair)
        self.assertEqual(len(all_rests(((100, 0), (0, 100)))), 10000)
        self.assertEqual(len(all_rests(stair=((10000,),))), 10000)
        self.refuses(TooGreat, 10000, all_rests, ((10001,),))
        self.refuses(TooGreat, 10000, all_rests, ((73, 0), (0, 137)))


class TwoStairsTest(Case):

    def test_by_all_vectors(self):
        draw = Draw(55)
        for width in (1, 2, 2, 3):
            for _ in range(12):
                one, other = drawn_stair(draw, width), drawn_stair(draw, width)
                both, whole = both_stair(one, other), sum_stair(one, other)
                self.assertTrue(plain_is_stair(both) and plain_is_stair(whole) and is_tupled((both, whole)))
                self.assertEqual(stair_size(both) * stair_size(whole), stair_size(one) * stair_size(other))
                sums = set()
                for vector in sums_of(one, stair_size(other)) if stair_size(other) < 10 else ():
                    sums.add(stair_rest(other, vector))
                for vector in box(width, 4 if width < 3 else 2):
                    self.assertEqual(in_stair(both, vector), in_stair(one, vector) and in_stair(other, vector))
                    if sums:
                        self.assertEqual(in_stair(whole, vector), stair_rest(other, vector) in sums)
                self.assertTrue(stair_within(one=both, other=one) and stair_within(one, whole))
                inside = all(in_stair(other, row) for row in one)
                self.assertEqual(stair_within(one, listed(other)), inside)
                self.assertEqual(stair_within(one, other), both == one)

    def test_great(self):
        draw = Draw(56)
        for _ in range(20):
            one = stair_of(5, [drawn_vector(draw, 5, GREAT) for _ in range(5)])
            other = drawn_stair(draw, 5, 10 ** 6)
            both, whole = both_stair(one=one, other=other), sum_stair(one=one, other=other)
            self.assertTrue(plain_is_stair(both) and plain_is_stair(whole))
            self.assertEqual(stair_size(both) * stair_size(whole), stair_size(one) * stair_size(other))
            self.assertTrue(stair_within(both, one) and stair_within(both, other))
            self.assertTrue(stair_within(one, whole) and stair_within(other, whole))
            parts = stair_parts(one)
            self.assertEqual(math.prod(parts), stair_size(one))

    def test_parts(self):
        draw = Draw(57)
        for width in range(1, 5):
            for _ in range(25):
                stair = drawn_stair(draw, width, 6)
                parts = stair_parts(stair=listed(stair))
                self.assertTrue(isinstance(parts, tuple) and all(part >= 2 for part in parts))
                self.assertTrue(all(high % low == 0 for low, high in zip(parts, parts[1:])))
                self.assertEqual(math.prod(parts), stair_size(stair))
                if stair_size(stair) <= 400:
                    rests = all_rests(stair)
                    for many in range(1, 13):
                        held = sum(in_stair(stair, [many * number for number in rest]) for rest in rests)
                        self.assertEqual(held, math.prod(math.gcd(many, part) for part in parts))
        self.assertEqual(stair_parts(((1,),)), ())
        self.assertEqual(stair_parts(((2, 0), (0, 3))), (6,))
        self.assertEqual(stair_parts(((2, 0, 0), (0, 6, 0), (0, 0, 4))), (2, 2, 12))
        self.assertEqual(stair_parts(((2, 1), (0, 2))), (4,))


if __name__ == "__main__":
    unittest.main()

"""Rows of whole numbers [5]."""

import unittest
from fractions import Fraction
from itertools import product
from random import Random

from seenlots.errors import Unfit
from seenlots.rows import completed, det_of, filled, index_of, is_bar, is_completed, is_full, is_rows, is_shares
from seenlots.rows import is_stepped, is_turner, rank_of, same_sums, stepped, turner, whole_bar, whole_shares
from tests.tools import ODD, agreed, check_thing, deep, det, dot, index, points, rank, spans, times_rows

BIG = 10 ** 12


def unit(size):
    return tuple(tuple(int(k == place) for place in range(size)) for k in range(size))


def told_stepped(table):
    """Whether a TABLE is stepped, by the document's words."""
    places = []
    for row in table:
        if not any(row):
            return False
        places.append(next(place for place, part in enumerate(row) if part))
    if places != sorted(set(places)):
        return False
    for count, place in enumerate(places):
        lead = table[count][place]
        if lead <= 0 or any(not 0 <= above[place] < lead for above in table[:count]):
            return False
    return True


def small_rows():
    """Many ROWS of one length: all of size 1 and 2 with small numbers, some of sizes to 6."""
    found = [()]
    for size, most, counts in ((1, 4, (1, 2)), (2, 2, (1, 2))):
        for count in counts:
            found += list(product(points(size, most), repeat=count))
    some = Random(1)
    for size in range(1, 7):
        for most in (1, 2, 6, 40):
            for _ in range(8):
                count = some.randint(1, min(8, size + 2))
                rows = [tuple(some.randint(-most, most) for _ in range(size)) for _ in range(count)]
                if count > 1 and some.random() < 0.4:
                    rows[0] = rows[-1]
                if some.random() < 0.2:
                    rows[count // 2] = (0,) * size
                found.append(tuple(rows))
    return found


def great_rows():
    """8 ROWS of 6 numbers of up to 10 ** 12 either way, and fewer."""
    some = Random(2)
    for count in (1, 3, 5, 6, 7, 8):
        yield tuple(tuple(some.randint(-BIG, BIG) for _ in range(6)) for _ in range(count))
    first, second = (tuple(some.randint(-10 ** 5, 10 ** 5) for _ in range(6)) for _ in range(2))
    yield tuple(times_rows((some.randint(-10 ** 6, 10 ** 6), some.randint(-10 ** 6, 10 ** 6)), (first, second), 6)
                for _ in range(8))
    yield ((BIG,) * 6,) * 8
    yield tuple(tuple(BIG * (k == place) for place in range(6)) for k in range(6))


def same_lattice(rows, table, turns):
    """Whether table, with ROWS of 0s behind, is what unit-determinant turns make of rows."""
    size = len(rows[0])
    made = tuple(times_rows(times, rows, size) for times in turns)
    return made == table + ((0,) * size,) * (len(rows) - len(table))


class Is(unittest.TestCase):
    def test_is_rows(self):
        good = [(), ((1, 0),), ((0, 0), (0, 0)), ((10 ** 30, -1),) * 3]
        check_thing(self, lambda thing: is_rows(thing, 2), good=good)
        self.assertIs(agreed(self, is_rows, ((1, 0),), 2), True)
        for thing in (((1, 0, 0),), ((1,),), ((1, 0), (1,)), ((),), ((1, True),), [(1, 0)], ([1, 0],), deep(tuple, 100)):
            self.assertIs(is_rows(thing, 2), False, thing)
        self.assertIs(is_rows(((0,) * 6,) * 9, 6), True)

    def test_is_stepped(self):
        rows = points(2, 3)
        for thing in [(row,) for row in rows] + list(product(rows, repeat=2)):
            self.assertIs(is_stepped(thing, 2), told_stepped(thing), thing)
            self.assertIs(is_stepped(thing, 3), False)
        for thing in product(points(3, 1), repeat=2):
            self.assertIs(is_stepped(thing, 3), told_stepped(thing), thing)
        check_thing(self, lambda thing: is_stepped(thing, 2), good=[(), ((1, 6), (0, 7)), ((0, 2),), ((10 ** 30, 0), (0, 1))])
        self.assertIs(is_stepped(((1, 6), (0, 6)), 2), False)
        self.assertIs(is_stepped(((1, 0), (0, 0)), 2), False)


class Stepped(unittest.TestCase):
    def test_small(self):
        for rows in small_rows():
            table = agreed(self, stepped, rows)
            self.assertTrue(told_stepped(table), rows)
            self.assertEqual(len(table), rank(rows))
            self.assertEqual(agreed(self, rank_of, rows), rank(rows))
            if rows:
                turns = agreed(self, turner, rows)
                self.assertIn(det(turns) if len(turns) < 6 else abs(det_of(turns)), (1, -1))
                self.assertTrue(same_lattice(rows, table, turns), rows)
                self.assertIs(is_turner(rows, turns), True)
        self.assertEqual(stepped(()), ())
        self.assertEqual(turner(()), ())
        self.assertEqual(stepped(((0, 0),)), ())

    def test_just_one(self):
        # No two stepped TABLES of small numbers have the same whole sums.
        tables = [()] + [thing for count in (1, 2) for thing in product(points(2, 2), repeat=count) if told_stepped(thing)]
        for one in tables:
            self.assertEqual(stepped(one), one)
            for other in tables:
                self.assertIs(same_sums(one, other), one == other)

    def test_same_sums(self):
        some = Random(3)
        for rows in small_rows()[::9]:
            if len(rows) < 2:
                continue
            size = len(rows[0])
            other = [list(row) for row in rows]
            for _ in range(6):
                one, two = some.sample(range(len(other)), 2)
                much = some.randint(-5, 5)
                other[one] = [part + much * more for part, more in zip(other[one], other[two])]
            other.append([0] * size)
            self.assertIs(agreed(self, same_sums, rows, tuple(tuple(row) for row in other)), True)
            self.assertIs(same_sums(rows, tuple(tuple(3 * part for part in row) for row in rows)), rank(rows) == 0)
        self.assertIs(same_sums((), ((0, 0),)), True)
        self.assertIs(same_sums(((0,),), ()), True)
        self.assertIs(same_sums(((2,), (3,)), ((1,),)), True)
        self.assertIs(same_sums(((2,),), ((4,), (6,))), True)
        self.assertIs(same_sums(((2, 0),), ((1, 0),)), False)

    def test_great(self):
        for rows in great_rows():
            table, turns = stepped(rows), turner(rows)
            self.assertTrue(told_stepped(table))
            self.assertTrue(same_lattice(rows, table, turns))
            self.assertTrue(is_turner(rows, turns))
            self.assertEqual(stepped(table), table)
            self.assertEqual(rank_of(rows), rank(rows))
            # What was returned may be handed in again, however great.
            self.assertEqual(stepped(turns), unit(len(rows)))
            self.assertIn(det_of(turns), (1, -1))
            self.assertEqual(filled(turns), unit(len(rows)))

    def test_is_turner(self):
        rows = ((2, 0), (1, 3))
        good = [((0, 1), (-1, 2)), turner(rows)]
        check_thing(self, is_turner, rows, good=good)
        for thing in product(points(2, 2), repeat=2):
            expected = det(thing) in (1, -1) and same_lattice(rows, stepped(rows), thing)
            self.assertIs(is_turner(rows, thing), expected, thing)
        rows = ((2,), (3,))
        for thing in product(points(2, 3), repeat=2):
            expected = det(thing) in (1, -1) and same_lattice(rows, ((1,),), thing)
            self.assertIs(is_turner(rows, thing), expected, thing)
        check_thing(self, is_turner, (), good=[()])
        check_thing(self, is_turner, ((0, 0),), good=[((1,),), ((-1,),)])
        # Right sums by a TABLE of another determinant are not enough.
        self.assertIs(is_turner(((0, 0), (1, 0)), ((5, 1), (2, 0))), False)
        self.assertIs(is_turner(((0, 0), (1, 0)), ((5, 1), (1, 0))), True)


class Det(unittest.TestCase):
    def test_small(self):
        for size, most in ((1, 4), (2, 2)):
            for table in product(points(size, most), repeat=size):
                self.assertEqual(det_of(table), det(table))
        some = Random(4)
        for size in (3, 4, 5, 6):
            for most in (1, 2, 30, BIG):
                for _ in range(12):
                    table = tuple(tuple(some.randint(-most, most) for _ in range(size)) for _ in range(size))
                    self.assertEqual(agreed(self, det_of, table), det(table))
        self.assertEqual(agreed(self, det_of, ()), 1)
        self.assertEqual(det_of(((0, 1), (1, 0))), -1)
        self.assertEqual(det_of(((0, 0, 2), (0, 3, 1), (4, 1, 1))), -24)


class Filled(unittest.TestCase):
    def test_small(self):
        for rows in small_rows():
            space = agreed(self, filled, rows)
            self.assertTrue(told_stepped(space))
            self.assertEqual(len(space), rank(rows))
            self.assertEqual(rank(rows + space), rank(rows))
            self.assertEqual(index(space), 1, rows)
            self.assertEqual(agreed(self, index_of, rows), index(rows), rows)
            self.assertIs(agreed(self, is_full, rows), index(rows) == 1, rows)
        self.assertEqual(filled(((0, 0), (0, 0))), ())
        self.assertIs(is_full(()), True)
        self.assertEqual(index_of(()), 1)
        self.assertIs(is_full(((0, 0),)), True)

    def test_points_in_it(self):
        for rows in small_rows()[:200:7] + [((2, 4, 6), (1, 1, 1)), ((3, 0, 3),), ((1, 2, 3), (2, 4, 6))]:
            if not rows:
                continue
            space = filled(rows)
            for point in points(len(rows[0]), 2):
                inside = whole_shares(space, point) is not None
                self.assertIs(inside, spans(rows, point), (rows, point))

    def test_kinds_of_points(self):
        # Two POINTS of filled(rows) are of one kind if one less the other is a whole sum of rows.
        for rows in (((2, 4),), ((2, 0), (1, 3)), ((3, 3), (0, 6)), ((4, 2, 0), (0, 2, 2)), ((6, 4),)):
            space = filled(rows)
            kinds = []
            for times in product(range(7), repeat=len(space)):
                point = times_rows(times, space, len(rows[0]))
                if not any(is_sum(rows, [a - b for a, b in zip(point, other)]) for other in kinds):
                    kinds.append(point)
            self.assertEqual(index_of(rows), len(kinds), rows)

    def test_great(self):
        for rows in great_rows():
            space = filled(rows)
            self.assertTrue(told_stepped(space))
            self.assertEqual(len(space), rank(rows))
            self.assertEqual(rank(rows + space), rank(rows))
            self.assertEqual(filled(space), space)
            self.assertTrue(is_full(space))
            self.assertEqual(index_of(space), 1)
            if len(rows) == 6 and rank(rows) == 6:
                self.assertEqual(index_of(rows), abs(det(rows)))
        self.assertEqual(index_of(((BIG,) * 6,) * 8), BIG)
        self.assertEqual(index_of(tuple(tuple(BIG * part for part in row) for row in unit(6))), BIG ** 6)
        self.assertEqual(filled(((BIG, 0, BIG),)), ((1, 0, 1),))


def is_sum(rows, row):
    """Whether row is a whole sum of independent rows, by Fractions."""
    return all(part.denominator == 1 for part in solved(rows, row)) if spans(rows, row) else False


def solved(rows, row):
    """The Fractions so often independent rows come to row, which they span."""
    count = len(rows)
    left = [[Fraction(each[place]) for each in rows] + [Fraction(row[place])] for place in range(len(row))]
    for k in range(count):
        lead = next(i for i in range(k, len(left)) if left[i][k] != 0)
        left[k], left[lead] = left[lead], left[k]
        left[k] = [part / left[k][k] for part in left[k]]
        for i in range(len(left)):
            if i != k:
                much = left[i][k]
                left[i] = [part - much * less for part, less in zip(left[i], left[k])]
    return [left[k][count] for k in range(count)]


class Shares(unittest.TestCase):
    def check_one(self, rows, row):
        """Exactly one of both papers is there, and it is one by the document's words."""
        shares, bar = agreed(self, whole_shares, rows, row), agreed(self, whole_bar, rows, row)
        self.assertNotEqual(shares is None, bar is None, (rows, row))
        if bar is None:
            self.assertEqual(len(shares), len(rows))
            self.assertTrue(all(type(part) is int for part in shares))
            self.assertEqual(times_rows(shares, rows, len(row)), row)
            self.assertIs(is_shares(rows, row, shares), True)
        else:
            self.assertEqual(len(bar), len(row))
            parts = [Fraction(*part) for part in bar]
            self.assertEqual(tuple((part.numerator, part.denominator) for part in parts), bar)
            self.assertTrue(all(dot(each, parts).denominator == 1 for each in rows))
            self.assertNotEqual(dot(row, parts).denominator, 1)
            self.assertIs(is_bar(rows, row, bar), True)

    def test_small(self):
        for size, most, least in ((1, 4, 4), (2, 1, 3)):
            for count in (0, 1, 2):
                for rows in product(points(size, most), repeat=count):
                    for row in points(size, least)[::2]:
                        self.check_one(rows, row)
        some = Random(5)
        for rows in small_rows():
            if not rows:
                continue
            size = len(rows[0])
            times = [some.randint(-3, 3) for _ in rows]
            whole = times_rows(times, rows, size)
            self.check_one(rows, whole)
            self.check_one(rows, (0,) * size)
            self.check_one(rows, tuple(part + some.choice((0, 0, 1)) for part in whole))
            self.check_one(rows, tuple(some.randint(-6, 6) for _ in range(size)))
            half = tuple(part // 2 for part in whole)
            self.check_one(rows, half)

    def test_great(self):
        some = Random(6)
        for rows in great_rows():
            self.check_one(rows, times_rows([some.randint(-9, 9) for _ in rows], rows, 6))
            self.check_one(rows, tuple(some.randint(-BIG, BIG) for _ in range(6)))
            self.check_one(rows, (0, 0, 0, 0, 0, 1))
        self.check_one((), (0, 0, 0))
        self.check_one((), (0, -7, 0))
        self.assertEqual(whole_shares((), (0, 0)), ())

    def test_is_shares(self):
        rows, row = ((2,), (3,)), (1,)
        check_thing(self, is_shares, rows, row, good=[(-1, 1), (2, -1), (10 ** 30 * 3 - 1, -10 ** 30 * 2 + 1)])
        for thing in points(2, 5) + points(1, 5) + points(3, 1):
            self.assertIs(is_shares(rows, row, thing), len(thing) == 2 and dot(thing, (2, 3)) == 1)
        check_thing(self, is_shares, (), (0, 0), good=[()])
        check_thing(self, is_shares, (), (0, 1), good=[])
        self.assertIs(is_shares((), (0, 1), ()), False)
        check_thing(self, is_shares, ((1, 0), (0, 1)), (1, 0), good=[(1, 0)])

    def test_is_bar(self):
        rows, row = ((2, 0), (1, 3)), (1, 0)
        good = [((1, 2), (1, 6)), ((-1, 2), (-1, 6)), ((1, 2), (7, 6))]
        check_thing(self, is_bar, rows, row, good=good)
        parts = [(top, bottom) for bottom in (1, 2, 3, 6) for top in range(-6, 7)]
        for thing in product(parts, repeat=2):
            values = [Fraction(*part) for part in thing]
            expected = all((part.numerator, part.denominator) == each for part, each in zip(values, thing))
            expected = expected and all(dot(each, values).denominator == 1 for each in rows)
            expected = expected and dot(row, values).denominator != 1
            self.assertIs(is_bar(rows, row, thing), expected, thing)
        for thing in (((1, 2),), ((1, 2), (1, 6), (0, 1)), ((1, 2), (2, 12)), ((1, 2), (1, -6)), ((1, 2), (1, 0)), (1, 2)):
            self.assertIs(is_bar(rows, row, thing), False, thing)
        # No bar is there against a whole sum.
        self.assertFalse(any(is_bar(rows, (3, 3), thing) for thing in product(parts, repeat=2) if fractions_all(thing)))
        check_thing(self, is_bar, (), (1,), good=[((1, 2),), ((-5, 3),)])


def fractions_all(thing):
    return all((Fraction(*part).numerator, Fraction(*part).denominator) == part for part in thing)


class Completed(unittest.TestCase):
    def check_completed(self, rows, size):
        full = len(rows) == rank(rows) and index(rows) == 1
        if not full:
            with self.assertRaises(Unfit):
                agreed(self, completed, rows, size)
            return
        table = agreed(self, completed, rows, size)
        self.assertEqual((len(table), {len(row) for row in table}), (size, {size}))
        self.assertEqual(table[:len(rows)], rows)
        self.assertIn(det(table), (1, -1))
        self.assertIs(is_completed(rows, size, table), True)

    def test_small(self):
        for rows in small_rows():
            if rows:
                self.check_completed(rows, len(rows[0]))
                space = filled(rows)
                for count in range(len(space) + 1):
                    self.check_completed(space[:count], len(rows[0]))
                self.check_completed(space[::-1], len(rows[0]))
        for size in range(1, 7):
            self.check_completed((), size)
            self.check_completed(unit(size), size)
            self.check_completed(((0,) * size,), size)

    def test_great(self):
        for rows in great_rows():
            space = filled(rows)
            self.check_completed(space[:3], 6)
            self.check_completed(rows[:1], 6)
        with self.assertRaises(Unfit):
            completed(((BIG, BIG - 2),), 2)
        self.check_completed(((BIG, BIG - 1),), 2)
        self.check_completed(((BIG, BIG - 1, -BIG), (BIG - 1, BIG - 2, 1)), 3)
        with self.assertRaises(Unfit):
            completed(((1, 0), (0, 1), (1, 1)), 2)
        with self.assertRaises(Unfit):
            completed(((1, 0), (1, 0)), 2)

    def test_is_completed(self):
        rows = ((1, 2),)
        check_thing(self, is_completed, rows, 2, good=[((1, 2), (0, 1)), ((1, 2), (1, 1)), ((1, 2), (10 ** 20, 2 * 10 ** 20 + 1))])
        for thing in product(points(2, 2), repeat=2):
            self.assertIs(is_completed(rows, 2, thing), thing[0] == (1, 2) and det(thing) in (1, -1))
        for thing in ODD:
            self.assertIs(is_completed(((2, 4),), 2, thing), False)
        self.assertIs(is_completed((), 1, ((-1,),)), True)
        self.assertIs(is_completed(rows, 2, ((1, 2), (0, 1), (0, 0))), False)
        self.assertIs(is_completed(rows, 2, ((1, 2),)), False)


if __name__ == "__main__":
    unittest.main()

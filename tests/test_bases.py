"""Views of one ROW each [17]."""

import unittest
from fractions import Fraction
from itertools import combinations
from random import Random

from seenlots.bases import all_bases, base_mix, cheap_basis, cost_steps, even_line, is_base_mix, is_basis, is_cost_steps, is_short_flat
from seenlots.bases import line_closed, line_flats, line_holds, line_rank, line_sight, may_leave, short_flat, tight_flat
from seenlots.errors import NoNumber, Unfit
from seenlots.holds import even_space, holds
from seenlots.region import least_sum
from seenlots.views import is_sight
from tests.shares import FEW, FRACTIONS, HALF, NONE, ONE, THIRD, fraction, value
from tests.tools import ODD, agreed, check_thing, deep, rank

FAN, TWIN = ((1, 0), (0, 1), (1, 1)), ((1, 0), (2, 0), (3, 0), (0, 1))
FANO = ((1, 0, 0), (0, 1, 0), (0, 0, 1), (1, 1, 0), (0, 1, 1), (1, 1, 1))


def some_rows(seed, many=50):
    """Pairs (size, rows): without ROWS, ROWS of 0s, one ROW twice, without a basis, at the bounds."""
    some = Random(seed)
    found = [(2, FAN), (2, TWIN), (3, FANO), (1, ()), (4, ()), (1, ((0,),)), (1, ((5,), (0,), (-3,))), (2, ((1, 2), (2, 4), (0, 0))),
             (3, ((1, 0, 0), (0, 1, 0), (1, 1, 0))), (4, ((1, 0, 0, 0), (0, 1, 0, 0), (0, 0, 1, 0), (0, 0, 0, 1), (1, 1, 1, 1), (1, 1, 1, 1))),
             (2, ((0, 0), (0, 0))), (4, ((99, -98, 97, 1), (99, -98, 97, 1), (0, 0, 0, 99)))]
    for _ in range(many):
        size = some.randint(1, 4)
        most = some.choice((1, 1, 2, 99))
        rows = [tuple(some.randint(-most, most) for _ in range(size)) for _ in range(some.randint(0, 6))]
        if len(rows) > 2 and some.random() < 0.3:
            rows[some.randrange(len(rows))] = rows[0]
        found.append((size, tuple(rows)))
    return found


def sets_of(many):
    return [some for count in range(many + 1) for some in combinations(range(many), count)]


def told_rank(rows, chosen):
    return rank([rows[number] for number in chosen])


def told_flats(rows):
    """All flats, by ranks."""
    return sorted(some for some in sets_of(len(rows)) if all(
        number in some or told_rank(rows, some + (number,)) > told_rank(rows, some) for number in range(len(rows))))


def told_bases(size, rows):
    return [some for some in combinations(range(len(rows)), size) if told_rank(rows, some) == size]


def told_lack(size, rows, shares, flat):
    """How much the shares of the others lack of the size less the rank."""
    return size - told_rank(rows, flat) - sum(value(share) for number, share in enumerate(shares) if number not in flat)


def told_mix(size, rows, shares, thing):
    """Whether thing is a MIX whose sums are nowhere above shares, by the document's words."""
    bases = [basis for basis, _ in thing]
    if bases != sorted(set(bases)) or not set(bases) <= set(told_bases(size, rows)):
        return False
    if any(value(weight) <= 0 for _, weight in thing) or sum(value(weight) for _, weight in thing) != 1:
        return False
    return all(sum(value(weight) for basis, weight in thing if number in basis) <= value(share) for number, share in enumerate(shares))


def told_steps(size, rows, heights, thing):
    """Whether thing is STEPS of the worth of the cheapest basis."""
    flats = [flat for flat, _ in thing]
    there = told_flats(rows)
    if rank(rows) < size or any(flat not in there or told_rank(rows, flat) >= size for flat in flats):
        return False
    if any(not set(one) < set(other) for one, other in zip(flats, flats[1:])) or any(value(weight) <= 0 for _, weight in thing):
        return False
    for number, height in enumerate(heights):
        if sum(value(weight) for flat, weight in thing if number not in flat) > value(height):
            return False
    least = min(sum(value(heights[number]) for number in basis) for basis in told_bases(size, rows))
    return sum(value(weight) * (size - told_rank(rows, flat)) for flat, weight in thing) == least


def some_heights(some, count):
    return [(NONE,) * count, (ONE,) * count, tuple(some.choice((NONE, ONE, (2, 1), HALF, (1000, 1))) for _ in range(count)),
            tuple(fraction(Fraction(some.randint(0, 1000), some.randint(1, 12))) for _ in range(count))]


def some_shares(some, count):
    return [(NONE,) * count, (ONE,) * count, (HALF,) * count] + [tuple(some.choice(FEW) for _ in range(count)) for _ in range(4)] + [
        tuple(some.choice(FRACTIONS) for _ in range(count)) for _ in range(2)]


class Flats(unittest.TestCase):
    def test_line_sight(self):
        for size, rows in some_rows(400, 10):
            sight = agreed(self, line_sight, size, rows)
            self.assertTrue(is_sight(sight))
            self.assertEqual(sight, (size, tuple((row,) for row in rows)))

    def test_ranks_and_closures(self):
        for size, rows in some_rows(401, 30):
            for some in sets_of(len(rows))[::3]:
                self.assertEqual(line_rank(rows, some), told_rank(rows, some))
                closed = line_closed(rows, some)
                self.assertEqual(closed, tuple(number for number in range(len(rows)) if told_rank(rows, some + (number,)) == told_rank(rows, some)))
                self.assertEqual(line_closed(rows, closed), closed)
        agreed(self, line_rank, TWIN, (0, 2))
        agreed(self, line_closed, TWIN, (1,))
        self.assertEqual(agreed(self, line_closed, ((0, 0), (1, 1), (0, 0)), ()), (0, 2))
        self.assertEqual(agreed(self, line_rank, (), ()), 0)
        self.assertEqual(agreed(self, line_closed, (), ()), ())

    def test_flats(self):
        for size, rows in some_rows(402):
            self.assertEqual(line_flats(rows), told_flats(rows), rows)
        agreed(self, line_flats, TWIN)
        self.assertEqual(agreed(self, line_flats, ()), [()])
        self.assertEqual(line_flats(((0,), (0,))), [(0, 1)])
        self.assertEqual(len(line_flats(FANO)), 1 + 6 + 7 + 1)

    def test_bases(self):
        for size, rows in some_rows(403):
            there = told_bases(size, rows)
            self.assertEqual(all_bases(size, rows), there)
            for some in sets_of(len(rows))[::2]:
                self.assertIs(is_basis(size, rows, some), some in there)
        agreed(self, all_bases, 2, FAN)
        agreed(self, is_basis, 2, FAN, (0, 2))
        check_thing(self, is_basis, 2, TWIN, good=[(0, 3), (1, 3), (2, 3)])
        check_thing(self, is_basis, 1, ((0,), (7,)), good=[(1,)])
        for thing in ((3, 0), (0, 1), (0,), (0, 3, 3), (0, 1, 3), (0, 4), (-1, 0), (0, -1), (0, True), ("0", 3), deep(tuple, 100), (), ((0, 3),)):
            self.assertIs(is_basis(2, TWIN, thing), False, thing)

    def test_exchange(self):
        # Each number of one basis can be exchanged for some of another, both being bases again.
        for size, rows in some_rows(404, 20):
            there = told_bases(size, rows)
            for one, other in combinations(there[:8], 2):
                for number in one:
                    leaving = may_leave(size, rows, other, number)
                    self.assertTrue(any(tuple(sorted(set(one) - {number} | {more})) in there for more in leaving))


class Leave(unittest.TestCase):
    def test_may_leave(self):
        for size, rows in some_rows(405, 30):
            there = told_bases(size, rows)
            for basis in there[::3]:
                for number in range(len(rows)):
                    expected = tuple(member for member in basis if tuple(sorted(set(basis) - {member} | {number})) in there)
                    self.assertEqual(may_leave(size, rows, basis, number), (number,) if number in basis else expected)
        agreed(self, may_leave, 2, FAN, (0, 1), 2)
        self.assertEqual(agreed(self, may_leave, 2, FAN, (0, 1), 1), (1,))
        self.assertEqual(agreed(self, may_leave, 1, ((2,), (0,)), (0,), 1), ())

    def test_errors_in_order(self):
        for number in (3, -1, 10 ** 20):
            # Ahead of Unfit: no basis either.
            for basis in ((0, 1), (0,), ()):
                with self.assertRaises(NoNumber) as caught:
                    agreed(self, may_leave, 2, FAN, basis, number)
                self.assertEqual(caught.exception.number, number)
        for basis in ((0, 1), (0,), (), (0, 1, 3)):
            with self.assertRaises(Unfit):
                agreed(self, may_leave, 2, TWIN, basis, 3)
        with self.assertRaises(NoNumber):
            agreed(self, may_leave, 1, (), (), 0)


class Hold(unittest.TestCase):
    def each(self, seed, many=40):
        some = Random(seed)
        for size, rows in some_rows(seed, many):
            for shares in some_shares(some, len(rows)):
                yield size, rows, shares

    def test_line_holds(self):
        counts = [0, 0]
        for size, rows, shares in self.each(406):
            expected = all(told_lack(size, rows, shares, flat) <= 0 for flat in told_flats(rows))
            counts[expected] += 1
            self.assertIs(line_holds(size, rows, shares), expected)
            if size <= 3 and len(rows) <= 4:
                self.assertIs(holds(line_sight(size, rows), shares), expected)
            # Exactly if there is a MIX; exactly if no flat is short.
            mix, flat = base_mix(size, rows, shares), short_flat(size, rows, shares)
            self.assertIs(mix is not None, expected)
            self.assertIs(flat is None, expected)
            if expected:
                self.assertTrue(told_mix(size, rows, shares, mix), (size, rows, shares, mix))
                self.assertIs(is_base_mix(size, rows, shares, mix), True)
            else:
                self.assertIn(flat, told_flats(rows))
                self.assertGreater(told_lack(size, rows, shares, flat), 0)
                self.assertIs(is_short_flat(size, rows, shares, flat), True)
        self.assertGreater(min(counts), 30)
        for function in (line_holds, base_mix, short_flat):
            for size, rows, shares in ((2, FAN, (ONE, HALF, HALF)), (2, FAN, (HALF,) * 3), (1, (), ()), (3, FANO, (HALF,) * 6)):
                agreed(self, function, size, rows, shares)

    def test_is_short_flat(self):
        for size, rows, shares in list(self.each(407, 20))[::2]:
            flats = told_flats(rows)
            for some in sets_of(len(rows))[::2]:
                expected = some in flats and told_lack(size, rows, shares, some) > 0
                self.assertIs(is_short_flat(size, rows, shares, some), expected)
        check_thing(self, is_short_flat, 2, TWIN, (ONE, ONE, ONE, HALF), good=[(0, 1, 2)])
        check_thing(self, is_short_flat, 2, FAN, (HALF,) * 3, good=[()])
        check_thing(self, is_short_flat, 2, (), (), good=[()])
        for thing in ((0, 1), (0, 2, 1), (2, 1, 0), (0, 1, 2, 2), (3,), (0, 1, 2, 3), (4,), deep(tuple, 100)):
            self.assertIs(is_short_flat(2, TWIN, (ONE, ONE, ONE, HALF), thing), False, thing)

    def test_is_base_mix(self):
        some = Random(408)
        counts = [0, 0]
        for size, rows, shares in self.each(409, 30):
            there = told_bases(size, rows)
            for _ in range(3):
                chosen = some.choices(there, k=some.choice((1, 2))) if there else []
                thing = tuple((basis, fraction(Fraction(1, len(chosen)))) for basis in (sorted(chosen) if some.random() < 0.9 else chosen))
                expected = told_mix(size, rows, shares, thing)
                counts[expected] += 1
                self.assertIs(is_base_mix(size, rows, shares, thing), expected)
        self.assertGreater(min(counts), 50)
        good = [(((0, 1), HALF), ((0, 2), HALF))]
        agreed(self, is_base_mix, 2, FAN, (ONE, HALF, HALF), good[0])
        check_thing(self, is_base_mix, 2, FAN, (ONE, HALF, HALF), good=good)
        for thing in (good[0][::-1], good[0][:1], ((0, 1), ONE), (((0, 1), ONE),), (((0, 1), HALF), ((0, 1), HALF)),
                      (((0, 1), HALF), ((0, 2), (2, 4))), (((1, 0), HALF), ((0, 2), HALF)), (((0, 1), HALF), ((0, 2), HALF), ((1, 2), NONE)),
                      (((0, 1), (3, 2)), ((0, 2), (-1, 2))), (((0,), HALF), ((0, 2), HALF)), (((0, 1),),), (((0, 3), ONE),), (),
                      deep(tuple, 100), ((deep(tuple, 98), ONE),), (((0, 1), deep(tuple, 98)),)):
            self.assertIs(is_base_mix(2, FAN, (ONE, HALF, HALF), thing), False, thing)
        for thing in ODD:
            self.assertIs(is_base_mix(1, (), (), thing), False)


class Even(unittest.TestCase):
    def test_even_line(self):
        for size, rows in some_rows(410):
            if rank(rows) < size:
                for function in (even_line, tight_flat):
                    with self.assertRaises(Unfit):
                        agreed(self, function, size, rows)
                continue
            even = value(even_line(size, rows))
            flats = told_flats(rows)
            lacking = [told_lack(size, rows, (fraction(even),) * len(rows), flat) for flat in flats]
            self.assertLessEqual(max(lacking), 0)
            self.assertFalse(line_holds(size, rows, (fraction(even * Fraction(99, 100)),) * len(rows)))
            # A lesser FRACTION is not enough for just those that lack nothing now, but for that of all.
            tight = [flat for flat, lack in zip(flats, lacking) if lack == 0 and told_rank(rows, flat) < size]
            self.assertEqual(tight_flat(size, rows), min(tight, key=lambda flat: (len(flat), flat)))
        agreed(self, even_line, 2, TWIN)
        agreed(self, tight_flat, 2, TWIN)
        # Of two the one with fewer members, though it is not the lesser one by comparison.
        rows = ((1, 0, 0), (1, 0, 0), (0, 1, 0), (0, 1, 0), (0, 0, 1))
        self.assertEqual((even_line(3, rows), tight_flat(3, rows)), (ONE, (0, 1, 2, 3)))
        self.assertEqual(tight_flat(2, ((1, 0), (1, 0), (0, 1), (0, 0))), (0, 1, 3))


class Cost(unittest.TestCase):
    def test_costs(self):
        some = Random(411)
        for size, rows in some_rows(412):
            there = told_bases(size, rows)
            for heights in some_heights(some, len(rows)):
                if rank(rows) < size:
                    for function in (cheap_basis, cost_steps):
                        with self.assertRaises(Unfit):
                            function(size, rows, heights)
                    for thing in ODD + ((),):
                        self.assertIs(is_cost_steps(size, rows, heights, thing), False)
                    continue
                costs = [sum(value(heights[number]) for number in basis) for basis in there]
                expected = [basis for basis, cost in zip(there, costs) if cost == min(costs)][0]
                self.assertEqual(cheap_basis(size, rows, heights), expected)
                steps = cost_steps(size, rows, heights)
                self.assertTrue(told_steps(size, rows, heights, steps), (size, rows, heights, steps))
                self.assertIs(is_cost_steps(size, rows, heights, steps), True)
                if steps:
                    self.assertIs(is_cost_steps(size, rows, heights, steps[1:]), False)
                if size <= 3 and len(rows) <= 4:
                    self.assertEqual(value(least_sum(line_sight(size, rows), heights)[0]), min(costs))
        for function in (cheap_basis, cost_steps):
            agreed(self, function, 2, FAN, (ONE, (5, 1), (2, 1)))
            agreed(self, function, 3, FANO, (HALF, (5, 1), (2, 1), NONE, NONE, THIRD))
            with self.assertRaises(Unfit):
                agreed(self, function, 2, ((1, 1), (2, 2)), (ONE, ONE))
        agreed(self, is_cost_steps, 2, FAN, (ONE, (5, 1), (2, 1)), (((), ONE), ((0,), ONE)))

    def test_is_cost_steps(self):
        some = Random(413)
        counts = [0, 0]
        for size, rows in some_rows(414, 40):
            flats = told_flats(rows)
            for heights in some_heights(some, len(rows))[1:3]:
                for _ in range(4):
                    chosen = some.sample(flats, min(len(flats), some.choice((0, 1, 1, 2))))
                    thing = tuple((flat, some.choice((ONE, HALF))) for flat in sorted(chosen, key=len))
                    expected = told_steps(size, rows, heights, thing)
                    counts[expected] += 1
                    self.assertIs(is_cost_steps(size, rows, heights, thing), expected)
        self.assertGreater(min(counts), 10)
        heights = (ONE, (5, 1), (2, 1))
        check_thing(self, is_cost_steps, 2, FAN, heights, good=[(((), ONE), ((0,), ONE))])
        check_thing(self, is_cost_steps, 2, FAN, (NONE,) * 3, good=[()])
        for thing in ((), (((), ONE),), (((0,), ONE), ((), ONE)), (((), ONE), ((), ONE)), (((), ONE), ((1,), ONE)), (((), (3, 2)),),
                      (((), ONE), ((0, 2), ONE)), (((), ONE), ((0,), ONE), ((0, 1, 2), ONE)), (((), ONE), ((0,), (2, 2))), (((), ONE, ONE),),
                      (((), ONE), ((0,), ONE), ((0,), NONE)), deep(tuple, 100), ((deep(tuple, 98), ONE),)):
            self.assertIs(is_cost_steps(2, FAN, heights, thing), False, thing)


class Many(unittest.TestCase):
    def test_many_end_soon(self):
        some = Random(415)
        for _ in range(250):
            rows = tuple(tuple(some.randint(-99, 99) for _ in range(4)) for _ in range(6))
            shares = tuple(some.choice(FRACTIONS) for _ in rows)
            self.assertIs(line_holds(4, rows, shares), short_flat(4, rows, shares) is None)
            self.assertIs(line_holds(4, rows, shares), base_mix(4, rows, shares) is not None)
            if rank(rows) == 4:
                heights = tuple(fraction(Fraction(some.randint(0, 1000), some.randint(1, 12))) for _ in rows)
                self.assertIs(is_cost_steps(4, rows, heights, cost_steps(4, rows, heights)), True)
                self.assertIs(line_holds(4, rows, (even_line(4, rows),) * 6), True)
        self.assertIs(even_space(line_sight(2, FAN), ((2, 3),) * 3), None)


if __name__ == "__main__":
    unittest.main()

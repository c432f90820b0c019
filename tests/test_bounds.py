"""Bounds [14]."""

import unittest
from fractions import Fraction
from math import lcm, prod
from random import Random

from seenlots.bounds import all_least, bound, ceiling, gain, is_ceiling, is_reach, least_size, most_points, pressing, reach
from seenlots.bounds import reach_worth, tightest, whole_bound
from seenlots.errors import NoView, Unfit
from seenlots.lots import image_sizes
from seenlots.powers import compared
from seenlots.reasons import is_reason, reason
from seenlots.region import corners
from seenlots.spaces import is_space, whole_space
from tests.shares import BLIND, GREAT, HALF, NONE, ONE, ROOM, SPACES, is_blind, product_order, sights, some_shares
from tests.sights import CRATE, SLANT
from tests.test_lots import some_lots
from tests.test_views import told_dims
from tests.tools import ODD, agreed, check_thing, deep

SIGHTS = [sight for sight in sights(341, 12) if not is_blind(sight)]
BIG = 10 ** 12
TWO = ((((0, 1),), ((-1, 1), NONE, ONE)), (((1, 0), (0, 1)), (ONE, NONE, NONE)))
LEAF = ("leaf",)


def some_sizes(seed, sight, many=3):
    """SIZES of 1, of 10 ** 12, alike, in ratios, and any."""
    some = Random(seed)
    count = len(sight[1])
    found = [(1,) * count, (BIG,) * count, (4,) * count, (BIG, BIG - 1, 1, 7)[:count], (2, 4, 8, 16)[:count]]
    for _ in range(many):
        found.append(tuple(some.choice((1, 2, 3, 4, 6, 12)) for _ in range(count)))
        found.append(tuple(some.randint(1, BIG) for _ in range(count)))
        found.append(tuple(some.choice((BIG, BIG - 1, BIG - 2, 10 ** 6, 10 ** 6 - 1)) for _ in range(count)))
    return found


def each(step=1):
    for number, sight in list(enumerate(SIGHTS))[::step]:
        for sizes in some_sizes(number, sight):
            yield sight, sizes


def pairs(sizes, shares):
    return list(zip(sizes, shares, strict=True))


def told_whole(sizes, shares):
    """The whole part of the bound, by whole numbers: by halving."""
    many = lcm(*[bottom for _, bottom in shares])
    whole = prod(size ** (top * many // bottom) for size, (top, bottom) in zip(sizes, shares))
    low, high = 0, whole + 1
    while high - low > 1:
        middle = (low + high) // 2
        if middle ** many <= whole:
            low = middle
        else:
            high = middle
    return low


def told_least(sight, sizes):
    """The corners with the least bound, compared by whole numbers."""
    best = []
    for shares in corners(sight):
        order = product_order(pairs(sizes, shares), pairs(sizes, best[0])) if best else 0
        best = [shares] if order < 0 else best + [shares] if order == 0 else best
    return tuple(best)


def product_to(sizes, powers, many):
    """The product of the sizes to the powers, to the power many."""
    result = Fraction(1)
    for size, (top, bottom) in zip(sizes, powers):
        result *= Fraction(size) ** (top * many // bottom)
    return result


def told_reach(sight, sizes, thing):
    """Whether a set of pairs is a REACH, by the document's words."""
    spaces = [space for space, _ in thing]
    if list(thing) != sorted(thing) or len(set(spaces)) < len(spaces) or () in spaces:
        return False
    if not all(is_space(space, sight[0]) for space in spaces):
        return False
    many = lcm(*[bottom for _, powers in thing for _, bottom in powers])
    ranges = [product_to(sizes, powers, many) for _, powers in thing]
    if any(part < 1 for part in ranges):
        return False
    for number, size in enumerate(sizes):
        shown = [told_dims(sight, space)[1][number] for space in spaces]
        if prod((part ** dim for part, dim in zip(ranges, shown)), start=Fraction(1)) > size ** many:
            return False
    return True


class Bound(unittest.TestCase):
    def test_bound(self):
        for sight, sizes in each():
            for shares in some_shares(342, sight, 1)[::3]:
                expected = tuple((size, share) for size, share in zip(sizes, shares) if size != 1 and share != NONE)
                self.assertEqual(bound(sizes, shares), expected)
                if lcm(*[bottom for _, bottom in shares]) <= 12:
                    self.assertEqual(whole_bound(sizes, shares), told_whole(sizes, shares))
        self.assertEqual(agreed(self, bound, (4, 1, 6, 9), (ONE, ONE, NONE, HALF)), ((4, ONE), (9, HALF)))
        self.assertEqual(agreed(self, bound, (), ()), ())
        self.assertEqual(agreed(self, whole_bound, (), ()), 1)
        self.assertEqual(agreed(self, whole_bound, (1, BIG, BIG - 1), (ONE, HALF, HALF)), 10 ** 12 - 1)
        self.assertEqual(whole_bound((BIG,) * 4, (ONE,) * 4), 10 ** 48)

    def test_lots_are_bounded(self):
        for sight in SIGHTS[::2]:
            for lot in some_lots(343, sight[0], 4):
                sizes = image_sizes(sight, lot)
                self.assertLessEqual(len(lot), most_points(sight, sizes))


class Least(unittest.TestCase):
    def test_all_least(self):
        for sight, sizes in each():
            best = told_least(sight, sizes)
            self.assertEqual(all_least(sight, sizes), best, (sight, sizes))
            self.assertEqual(tightest(sight, sizes), best[0])
            self.assertEqual(most_points(sight, sizes), told_whole(sizes, best[0]))
            pressed = tuple(k for k in range(len(sizes)) if all(shares[k] != NONE for shares in best))
            self.assertEqual(pressing(sight, sizes), pressed)
        for sight, sizes in list(each())[::23]:
            for function in (all_least, tightest, most_points, pressing):
                agreed(self, function, sight, sizes)

    def test_pressing(self):
        # Just these make the least bound greater if their size is greater.
        for sight, sizes in list(each())[::3]:
            before = bound(sizes, tightest(sight, sizes))
            for number in range(len(sizes)):
                more = sizes[:number] + (sizes[number] * 10 ** 3,) + sizes[number + 1:]
                after = bound(more, tightest(sight, more))
                self.assertIs(compared(after, before) > 0, number in pressing(sight, sizes))

    def test_several_with_the_same(self):
        self.assertEqual(len(all_least(SLANT, (1, 1, 1))), 4)
        self.assertEqual(len(all_least(CRATE, (1, 1, 1))), 5)
        self.assertEqual(all_least(SLANT, (2, 4, 4)), ((ONE, NONE, ONE), (ONE, ONE, NONE)))
        self.assertEqual(all_least(CRATE, (4, 4, 16)), ((ONE, ONE, NONE), (HALF, HALF, HALF)))
        # Nearly the same: by less than 10 ** -24 of it.
        self.assertEqual(all_least(CRATE, (BIG - 1, BIG + 1, BIG * BIG)), ((ONE, ONE, NONE),))
        self.assertEqual(all_least(CRATE, (BIG - 1, BIG + 1, BIG * BIG - 1)), ((ONE, ONE, NONE), (HALF, HALF, HALF)))
        self.assertEqual(all_least(CRATE, (BIG - 1, BIG + 1, BIG * BIG - 2)), ((HALF, HALF, HALF),))


class Gain(unittest.TestCase):
    def test_gain(self):
        for sight, sizes in each():
            for number in range(len(sizes)):
                more = sizes[:number] + (sizes[number] + 1,) + sizes[number + 1:]
                self.assertEqual(gain(sight, sizes, number), most_points(sight, more) - most_points(sight, sizes))
        agreed(self, gain, SLANT, (4, 6, 5), 0)

    def test_least_size(self):
        some = Random(344)
        for sight, sizes in each():
            number = some.randrange(len(sizes))
            for many in (1, 2, 10, some.randint(1, 10 ** 6), 10 ** 12, 10 ** 15 + 1, 10 ** 40):
                least = least_size(sight, sizes, number, many)

                def with_size(size):
                    return most_points(sight, sizes[:number] + (size,) + sizes[number + 1:])
                if least is None:
                    self.assertLess(with_size(10 ** 300), many)
                else:
                    self.assertGreaterEqual(with_size(least), many)
                    self.assertTrue(least == 1 or with_size(least - 1) < many)
        agreed(self, least_size, SLANT, (4, 6, 5), 0, 30)
        self.assertIs(agreed(self, least_size, SLANT, (4, 6, 5), 0, 31), None)
        self.assertEqual(least_size((1, (((3,),),)), (7,), 0, 10 ** 400), 10 ** 400)
        self.assertEqual(least_size(CRATE, (100, 100, 1), 2, 10 ** 4), 10 ** 4)
        self.assertIs(least_size(CRATE, (100, 100, 1), 2, 10 ** 4 + 1), None)

    def test_no_view_first(self):
        for sight in [SLANT, CRATE] + BLIND:
            sizes = (3,) * len(sight[1])
            for number in (-1, len(sight[1]), 10 ** 20):
                for call in ((gain, number), (least_size, number, 5)):
                    with self.assertRaises(NoView) as caught:
                        agreed(self, call[0], sight, sizes, *call[1:])
                    self.assertEqual(caught.exception.number, number)


class Unfits(unittest.TestCase):
    def test_no_shares_hold(self):
        for sight in BLIND:
            sizes = (9,) * len(sight[1])
            for function in (all_least, tightest, most_points, pressing, reach, ceiling):
                with self.assertRaises(Unfit):
                    agreed(self, function, sight, sizes)
            if sight[1]:
                with self.assertRaises(Unfit):
                    agreed(self, gain, sight, sizes, 0)
                with self.assertRaises(Unfit):
                    agreed(self, least_size, sight, sizes, 0, 5)
            for thing in ODD + ((), ((ONE,) * len(sight[1]), LEAF)):
                with self.assertRaises(Unfit):
                    is_reach(sight, sizes, thing)
                with self.assertRaises(Unfit):
                    is_ceiling(sight, sizes, 5, thing)


class Reach(unittest.TestCase):
    def test_reach(self):
        for sight, sizes in each():
            found = reach(sight, sizes)
            self.assertTrue(told_reach(sight, sizes, found), (sight, sizes, found))
            self.assertIs(is_reach(sight, sizes, found), True)
            # Its worth is the least bound: so nothing less is one.
            self.assertEqual(compared(reach_worth(sizes, found), bound(sizes, tightest(sight, sizes))), 0)
        for sight, sizes in list(each())[::23]:
            found = agreed(self, reach, sight, sizes)
            agreed(self, reach_worth, sizes, found)
            agreed(self, is_reach, sight, sizes, found)
        self.assertEqual(compared(reach_worth((1, 1, 1), reach(CRATE, (1, 1, 1))), ()), 0)

    def test_close_sizes(self):
        # Ranges that are above 1 by less than 10 ** -24, and just 1.
        for sizes in ((BIG, BIG - 1, BIG - 2), (BIG - 1, BIG - 2, BIG), (BIG, BIG, BIG - 1), (BIG - 1, BIG - 1, BIG)):
            for sight in (SLANT, CRATE):
                found = reach(sight, sizes)
                self.assertTrue(told_reach(sight, sizes, found))
                self.assertEqual(compared(reach_worth(sizes, found), bound(sizes, tightest(sight, sizes))), 0)

    def test_is_reach(self):
        some = Random(345)
        counts = [0, 0]
        for sight, sizes in list(each())[::2]:
            for _ in range(4):
                spaces = some.sample(SPACES[sight[0]][1:], min(some.choice((0, 1, 2)), len(SPACES[sight[0]]) - 1))
                few = ((0, 1), (0, 1), (1, 3), HALF, ONE, (-1, 2))
                thing = tuple(sorted((space, tuple(some.choice(few) for _ in sizes)) for space in spaces))
                expected = told_reach(sight, sizes, thing)
                counts[expected] += 1
                self.assertIs(is_reach(sight, sizes, thing), expected, (sight, sizes, thing))
                # Never above the bound of SHARES that hold.
                if expected:
                    self.assertLessEqual(compared(reach_worth(sizes, thing), bound(sizes, tightest(sight, sizes))), 0)
        self.assertGreater(min(counts), 50)

    def test_things(self):
        check_thing(self, is_reach, SLANT, (4, 6, 5), good=[TWO, ((whole_space(2), (ONE, NONE, NONE)),)])
        self.assertIs(is_reach(SLANT, (4, 6, 5), ()), True)
        self.assertIs(is_reach(SLANT, (1, 1, 1), ((((1, 5),), ((3, 7), (-5, 1), (10 ** 20, 1))),)), True)
        for thing in (TWO[::-1], TWO + TWO, TWO[:1] * 2, (TWO[0], (((0, 1),), (NONE, NONE, NONE))), (((), (NONE, NONE, NONE)),),
                      ((((0, 2),), (NONE, NONE, NONE)),), ((((0, 1),), (NONE, NONE)),), ((((0, 1),), ((-1, 1), NONE, NONE)),),
                      ((((0, 1),), (NONE, (2, 1), NONE)),), ((((0, 1),), ((0, 2), NONE, NONE)),), ((((0, 1),),),), deep(tuple, 100),
                      ((deep(tuple, 98), (NONE, NONE, NONE)),), ((((0, 1),), deep(tuple, 98)),)):
            self.assertIs(is_reach(SLANT, (4, 6, 5), thing), False, thing)

    def test_reach_worth(self):
        self.assertEqual(agreed(self, reach_worth, (4, 6, 5), TWO), ((4, ONE), (5, ONE)))
        self.assertEqual(agreed(self, reach_worth, (4, 1, 5), ((((0, 1),), (HALF, ONE, ONE)), (((1, 0), (0, 1)), ((-1, 4), ONE, ONE)))),
                         ((5, (3, 1)),))
        self.assertEqual(agreed(self, reach_worth, (4, 6, 5), ()), ())
        self.assertEqual(agreed(self, reach_worth, (), ()), ())


class Ceiling(unittest.TestCase):
    def test_ceiling(self):
        for sight, sizes in list(each())[::2]:
            found = ceiling(sight, sizes)
            shares, given = found
            self.assertIs(is_reason(sight, shares, given), True)
            self.assertIn(shares, corners(sight))
            most = most_points(sight, sizes)
            self.assertEqual(whole_bound(sizes, shares), most)
            self.assertIs(is_ceiling(sight, sizes, most, found), True)
            self.assertIs(is_ceiling(sight, sizes, most + 1, found), True)
            if most > 1:
                self.assertIs(is_ceiling(sight, sizes, most - 1, found), False)
        for sight, sizes in list(each())[::31]:
            agreed(self, is_ceiling, sight, sizes, most_points(sight, sizes), agreed(self, ceiling, sight, sizes))

    def test_is_ceiling(self):
        some = Random(346)
        for sight, sizes in list(each())[::4]:
            for shares in some.sample(some_shares(347, sight, 1), 2):
                for given in (LEAF, ("mix", ((ONE, shares, LEAF),)), None):
                    for many in (1, 10, 10 ** 6, 10 ** 30):
                        expected = is_reason(sight, shares, given) and compared(bound(sizes, shares), ((many + 1, ONE),)) < 0
                        self.assertIs(is_ceiling(sight, sizes, many, (shares, given)), expected)
        sizes, shares = (4, 6, 5), (ONE, NONE, ONE)
        check_thing(self, is_ceiling, SLANT, sizes, 20, good=[(shares, LEAF), (shares, ("mix", ((ONE, shares, LEAF),)))])
        half = (HALF, HALF, ONE)
        check_thing(self, is_ceiling, SLANT, sizes, 24, good=[(half, reason(SLANT, half))])
        for thing in ((shares,), (shares, LEAF, LEAF), (LEAF, shares), (shares[:2], LEAF), (shares + (NONE,), LEAF), ((ONE, NONE, (3, 2)), LEAF),
                      ((ONE, (-1, 2), ONE), LEAF), ((ONE, (0, 2), ONE), LEAF), (shares, ("mix", ())), deep(tuple, 100),
                      (shares, deep(tuple, 99)), (deep(tuple, 99), LEAF)):
            self.assertIs(is_ceiling(SLANT, sizes, 10 ** 9, thing), False, thing)


class Many(unittest.TestCase):
    def test_many_end_soon(self):
        some = Random(348)
        for sight in [sight for sight in GREAT if not is_blind(sight)] + ROOM * 4:
            for _ in range(4):
                sizes = tuple(some.choice((1, BIG, BIG - 1, some.randint(1, BIG), some.randint(1, 40))) for _ in sight[1])
                most = most_points(sight, sizes)
                self.assertIs(is_ceiling(sight, sizes, most, ceiling(sight, sizes)), True)
                self.assertIs(is_reach(sight, sizes, reach(sight, sizes)), True)
                number = some.randrange(len(sizes))
                self.assertLessEqual(least_size(sight, sizes, number, most), sizes[number])
                self.assertGreaterEqual(gain(sight, sizes, number), 0)


if __name__ == "__main__":
    unittest.main()

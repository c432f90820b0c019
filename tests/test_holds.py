"""What holds [10]."""

import unittest
from fractions import Fraction
from itertools import product
from random import Random

from seenlots.errors import NoPaper, NoView, Unfit
from seenlots.holds import enough_share, enough_times, even_space, excess, greatest_excess, greatest_space, holds, in_parts
from seenlots.holds import is_even_space, is_too_great, least_space, too_great
from seenlots.lots import keeps
from seenlots.spaces import is_space, meet, sum_space, whole_space, within
from seenlots.views import beyond, inside
from tests.shares import BLIND, FEW, GREAT, HALF, NONE, ONE, ROOM, SPACES, fraction, is_blind, kinds_of, sights, some_shares
from tests.shares import dims_of, told_excess, told_holds, value
from tests.sights import CRATE, SLANT
from tests.tools import ODD, agreed, check_thing, deep, points

SIGHTS = sights(301, 12)


def each():
    """SIGHTS with SHARES."""
    for number, sight in enumerate(SIGHTS):
        for shares in some_shares(number, sight, 3):
            yield sight, shares


class Excess(unittest.TestCase):
    def test_excess(self):
        for sight, shares in list(each())[::6]:
            for space in SPACES[sight[0]][::9] + [(), whole_space(sight[0])]:
                told = agreed(self, excess, sight, shares, space)
                self.assertEqual(told, fraction(told_excess(shares, dims_of(sight, space))))
        self.assertEqual(excess(SLANT, (HALF, HALF, ONE), ()), NONE)
        self.assertEqual(excess(SLANT, (NONE, NONE, NONE), ((1, 5),)), ONE)
        self.assertEqual(excess((3, ()), (), whole_space(3)), (3, 1))

    def test_greatest(self):
        for sight, shares in each():
            most = greatest_excess(sight, shares)
            self.assertEqual(value(most), max(told_excess(shares, kind) for kind in kinds_of(sight)))
            low, high = least_space(sight, shares), greatest_space(sight, shares)
            for space in (low, high):
                self.assertTrue(is_space(space, sight[0]))
                self.assertEqual(told_excess(shares, dims_of(sight, space)), value(most))
            self.assertTrue(within(low, high))
            for space in SPACES[sight[0]]:
                if len(low) <= len(space) <= len(high) or sight[0] < 3:
                    above = told_excess(shares, dims_of(sight, space))
                    self.assertLessEqual(above, value(most))
                    if above == value(most):
                        # It has the least one in it and lies in the greatest.
                        self.assertTrue(within(low, space) and within(space, high), (sight, shares, space))
                else:
                    self.assertLess(told_excess(shares, dims_of(sight, space)), value(most))

    def test_ways(self):
        for sight, shares in list(each())[::9]:
            for function in (greatest_excess, least_space, greatest_space, holds, too_great):
                agreed(self, function, sight, shares)

    def test_sum_and_meet(self):
        # The excess of the sum and that of the meet are together at least those of the two.
        some = Random(302)
        for sight, shares in list(each())[::9]:
            for _ in range(6):
                one, other = some.choice(SPACES[sight[0]]), some.choice(SPACES[sight[0]])
                both = value(excess(sight, shares, sum_space(one, other))) + value(excess(sight, shares, meet(one, other)))
                self.assertGreaterEqual(both, value(excess(sight, shares, one)) + value(excess(sight, shares, other)))


class Hold(unittest.TestCase):
    def test_by_kinds(self):
        for sight, shares in each():
            expected = told_holds(sight, shares)
            self.assertIs(holds(sight, shares), expected, (sight, shares))
            self.assertIs(least_space(sight, shares) == (), expected)
            self.assertIs(too_great(sight, shares) is None, expected)
            if is_blind(sight):
                self.assertFalse(expected)
            elif set(shares) <= {ONE}:
                self.assertTrue(expected)

    def test_just_enough_and_too_small(self):
        for sight, shares, expected in (
                (CRATE, (HALF, HALF, HALF), True), (CRATE, (HALF, HALF, (5, 12)), False), (CRATE, (HALF, HALF, (7, 12)), True),
                (SLANT, (HALF, HALF, ONE), True), (SLANT, ((5, 12), HALF, ONE), False), (SLANT, ((2, 3),) * 3, True),
                (SLANT, ((2, 3), (2, 3), (7, 12)), False), (SLANT, (ONE, ONE, NONE), True), (SLANT, (NONE, (11, 12), ONE), False),
                ((1, (((5,),),)), (ONE,), True), ((1, (((5,),),)), ((11, 12),), False), ((1, (((0,),),)), (ONE,), False),
                ((1, (((5,),), ((7,),))), ((1, 12), (11, 12)), True), ((1, (((5,),), ((7,),))), ((1, 12), (10, 11)), False),
                ((2, ()), (), False), ((3, ((),)), (ONE,), False)):
            self.assertIs(agreed(self, holds, sight, shares), expected, (sight, shares))

    def test_no_lot_breaks_what_holds(self):
        for sight in (SLANT, CRATE, ROOM[4], (1, (((2,),), ((0,),)))):
            size = sight[0]
            grid = points(size, 1)[1:7]
            lots = [tuple(point for point, bit in zip(grid, bits) if bit) for bits in product((0, 1), repeat=len(grid))][1:]
            for shares in some_shares(303, sight, 2):
                if holds(sight, shares):
                    self.assertTrue(all(keeps(sight, shares, lot) for lot in lots))

    def test_greater_shares_and_mixes(self):
        some = Random(304)
        for sight in SIGHTS:
            held = [shares for shares in some_shares(305, sight, 3) if holds(sight, shares)]
            for shares in held[::2]:
                other = some.choice(held)
                more = tuple(max(one, two, key=lambda pair: Fraction(*pair)) for one, two in zip(shares, some.choice(held)))
                self.assertIs(holds(sight, more), True)
                mix = tuple(fraction((value(one) + 2 * value(two)) / 3) for one, two in zip(shares, other))
                self.assertIs(holds(sight, mix), True)


class TooGreat(unittest.TestCase):
    def test_too_great(self):
        for sight, shares in each():
            space = too_great(sight, shares)
            if space is not None:
                self.assertGreater(told_excess(shares, dims_of(sight, space)), 0)
                self.assertIs(is_too_great(sight, shares, space), True)
        for sight, shares in list(each())[::12]:
            for space in SPACES[sight[0]][::4]:
                self.assertIs(is_too_great(sight, shares, space), told_excess(shares, dims_of(sight, space)) > 0)

    def test_things(self):
        few = (HALF, HALF, NONE)
        good = [((1, 0, 0), (0, 1, 0)), ((1, 0, 0), (0, 0, 1)), ((0, 1, 0), (0, 0, 1)), ((1, 0, 0), (0, 1, 0), (0, 0, 1)),
                ((0, 0, 1),), ((1, 0, 0),), ((0, 1, 0),), ((2, 1, 0),), ((10 ** 30, 0, 1), (0, 1, 0))]
        good = [space for space in good if told_excess(few, dims_of(CRATE, space)) > 0]
        self.assertGreater(len(good), 4)
        check_thing(self, is_too_great, CRATE, few, good=good)
        for thing in ((), ((0, 0, 0),), ((2, 0, 0),), ((-1, 0, 0),), ((1, 0), (0, 1)), ((1, 0, 0), (1, 1, 0)), deep(tuple, 100)):
            self.assertIs(is_too_great(CRATE, few, thing), False, thing)
        for thing in ODD:
            self.assertIs(is_too_great(CRATE, (ONE, ONE, ONE), thing), False)
        check_thing(self, is_too_great, (1, ()), (), good=[((1,),)])


class Even(unittest.TestCase):
    def test_even_space(self):
        for sight, shares in each():
            size = sight[0]
            if not told_holds(sight, shares):
                with self.assertRaises(Unfit):
                    even_space(sight, shares)
                continue
            even = [kind for kind in kinds_of(sight) if 0 < kind[0] < size and told_excess(shares, kind) == 0]
            space = even_space(sight, shares)
            self.assertIs(space is None, even == [], (sight, shares))
            if space is not None:
                self.assertIn(dims_of(sight, space), even)
                self.assertIs(is_even_space(sight, shares, space), True)
        for sight, shares in list(each())[::14]:
            try:
                agreed(self, even_space, sight, shares)
            except Unfit:
                self.assertFalse(holds(sight, shares))

    def test_is_even_space(self):
        for sight, shares in list(each())[::8]:
            for space in SPACES[sight[0]][::3]:
                even = 0 < len(space) < sight[0] and told_excess(shares, dims_of(sight, space)) == 0
                self.assertIs(is_even_space(sight, shares, space), even)
        good = [((1, -1),)]
        check_thing(self, is_even_space, SLANT, (HALF, HALF, ONE), good=good)
        # All and () are never even; whether the shares hold does not matter.
        for thing in ((), whole_space(2), ((1, 1),), ((-1, 1),), ((2, -2),), deep(tuple, 100)):
            self.assertIs(is_even_space(SLANT, (HALF, HALF, ONE), thing), False, thing)
        self.assertIs(is_even_space(SLANT, (NONE, NONE, ONE), ((1, 3),)), True)
        self.assertIs(holds(SLANT, (NONE, NONE, ONE)), False)
        for thing in (((1,),), (), ODD):
            self.assertIs(is_even_space((1, (((1,),),)), (ONE,), thing), False)


class Enough(unittest.TestCase):
    def test_enough_share(self):
        tiny = Fraction(1, 10 ** 6)
        for sight, shares in list(each())[::2]:
            for number in range(len(shares)):
                def with_share(part):
                    return shares[:number] + (fraction(part),) + shares[number + 1:]
                if not told_holds(sight, with_share(Fraction(1))):
                    with self.assertRaises(NoPaper):
                        enough_share(sight, shares, number)
                    continue
                least = value(enough_share(sight, shares, number))
                self.assertTrue(0 <= least <= 1)
                self.assertTrue(told_holds(sight, with_share(least)))
                self.assertTrue(least == 0 or not told_holds(sight, with_share(max(least - tiny, Fraction(0)))))
        for sight in (SLANT, CRATE, (1, (((5,),), ((0,),)))):
            for shares in some_shares(306, sight, 1)[::3]:
                for number in range(len(shares)):
                    try:
                        agreed(self, enough_share, sight, shares, number)
                    except NoPaper:
                        self.assertFalse(holds(sight, shares[:number] + (ONE,) + shares[number + 1:]))

    def test_no_view_first(self):
        for sight, shares in ((SLANT, (NONE, NONE, NONE)), (SLANT, (ONE, ONE, ONE)), ((2, ()), ()), ((1, ((),)), (NONE,))):
            for number in (-1, len(shares), 10 ** 20, -10 ** 20):
                with self.assertRaises(NoView) as caught:
                    agreed(self, enough_share, sight, shares, number)
                self.assertEqual(caught.exception.number, number)
        with self.assertRaises(NoPaper):
            agreed(self, enough_share, SLANT, (NONE, NONE, NONE), 0)
        with self.assertRaises(NoPaper):
            agreed(self, enough_share, (1, ((),)), (NONE,), 0)

    def test_enough_times(self):
        tiny = Fraction(1, 10 ** 6)

        def fits(sight, shares, times):
            return all(kind[0] <= times * sum(value(share) * part for share, part in zip(shares, kind[1])) for kind in kinds_of(sight))

        for sight, shares in each():
            if any(kind[0] and not sum(value(share) * part for share, part in zip(shares, kind[1])) for kind in kinds_of(sight)):
                with self.assertRaises(NoPaper):
                    enough_times(sight, shares)
                continue
            least = value(enough_times(sight, shares))
            self.assertTrue(fits(sight, shares, least))
            self.assertFalse(fits(sight, shares, least - tiny))
            self.assertIs(holds(sight, shares), least <= 1)
        self.assertEqual(agreed(self, enough_times, CRATE, ((1, 3),) * 3), (3, 2))
        self.assertEqual(agreed(self, enough_times, (1, (((3,),),)), ((1, 12),)), (12, 1))
        for sight, shares in (((2, ()), ()), (CRATE, (NONE,) * 3), (BLIND[5], (ONE,))):
            with self.assertRaises(NoPaper):
                agreed(self, enough_times, sight, shares)


class Parts(unittest.TestCase):
    def test_in_parts(self):
        some = Random(307)
        for sight, shares in list(each())[::3]:
            for space in some.sample(SPACES[sight[0]], min(4, len(SPACES[sight[0]]))):
                if 0 < len(space) < sight[0]:
                    told = agreed(self, in_parts, sight, shares, space)
                    self.assertEqual(told, (told_holds(inside(sight, space), shares), told_holds(beyond(sight, space), shares)))
                    if holds(sight, shares):
                        # They hold INSIDE each SPACE, and BEYOND each even one.
                        self.assertTrue(told[0])
                        if is_even_space(sight, shares, space):
                            self.assertTrue(told[1])
                    else:
                        self.assertNotEqual(told, (True, True))
        self.assertEqual(in_parts(SLANT, (HALF, HALF, ONE), ((1, -1),)), (True, True))
        self.assertEqual(in_parts(SLANT, (HALF, NONE, ONE), ((1, -1),)), (False, True))
        self.assertEqual(in_parts(SLANT, (ONE, NONE, NONE), ((1, 0),)), (True, False))

    def test_unfit(self):
        for sight, shares in ((SLANT, (HALF, HALF, ONE)), (CRATE, (NONE,) * 3), ((1, ()), ()), ((3, ((),)), (ONE,))):
            for space in ((), whole_space(sight[0])):
                with self.assertRaises(Unfit):
                    agreed(self, in_parts, sight, shares, space)


class Many(unittest.TestCase):
    def test_many_end_soon(self):
        # Some thousands of calls at the bounds: if one took a second, this would not end in an hour.
        some = Random(308)
        for sight in GREAT + ROOM * 4:
            for _ in range(8):
                shares = tuple(some.choice(FEW) for _ in sight[1])
                told = holds(sight, shares)
                self.assertIs(greatest_excess(sight, shares)[0] == 0, told)
                self.assertIs(is_too_great(sight, shares, greatest_space(sight, shares)), not told)
                self.assertLessEqual(len(least_space(sight, shares)), len(greatest_space(sight, shares)))


if __name__ == "__main__":
    unittest.main()

"""Lots [8]."""

import unittest
from fractions import Fraction
from itertools import product
from math import lcm, prod
from random import Random

from seenlots.errors import TooMany, Unfit
from seenlots.kinds import all_kinds, hard_kinds, space_of_kind
from seenlots.lots import box, box_of, fibres, image_sizes, is_lot, keeps, lot_moved, lot_product, lot_sum, parts, reaches
from seenlots.lots import shown_lot, spread
from seenlots.spaces import is_in, small_spaces, whole_space, zeros_of
from seenlots.views import based, beyond, finer, inside, kernel
from tests.sights import BOXES, SLANT, small_sights
from tests.test_spaces import some_view
from tests.test_views import seen
from tests.tools import agreed, check_thing, deep, points, times_rows

SQUARE = ((0, 0), (0, 1), (1, 0), (1, 1))
FRACTIONS = ((0, 1), (1, 1), (1, 2), (1, 3), (2, 3), (3, 4), (5, 12))


def some_lots(seed, size, many=6):
    """LOTS of up to 64 POINTS, of one POINT, with small and with great numbers."""
    some = Random(seed)
    found = [((0,) * size,), ((10 ** 6,) * size,)]
    for most in (1, 2, 3, 10 ** 6):
        for _ in range(many // 2):
            count = some.choice((1, 2, 5, 20, 64))
            found.append(tuple(sorted({tuple(some.randint(-most, most) for _ in range(size)) for _ in range(count)})))
    return found


class Is(unittest.TestCase):
    def test_is_lot(self):
        good = [((0, 0),), SQUARE, ((-10 ** 30, 5), (0, 0)), ((1, 0), (1, 1))]
        check_thing(self, lambda thing: is_lot(thing, 2), good=good)
        for thing in ((), SQUARE[::-1], ((0, 0), (0, 0)), ((0, 0), (0, 1), (0, 1)), ((0,),), ((0, 0), (1,)), (0, 0), deep(tuple, 100)):
            self.assertIs(is_lot(thing, 2), False, thing)
        for thing in product(points(2, 1), repeat=2):
            self.assertIs(is_lot(thing, 2), thing[0] < thing[1])
        self.assertIs(agreed(self, is_lot, ((5,), (6,)), 1), True)


class Images(unittest.TestCase):
    def test_shown(self):
        for sight in small_sights(1, 12):
            size, views = sight
            for lot in some_lots(2, size):
                sizes = agreed(self, image_sizes, sight, lot)
                self.assertEqual(len(sizes), len(views))
                for view, many in zip(views, sizes):
                    image = {seen(view, point) for point in lot}
                    self.assertEqual(shown_lot(view, lot), tuple(sorted(image)))
                    self.assertEqual(many, len(image))
        self.assertEqual(agreed(self, shown_lot, ((1, 1),), SQUARE), ((0,), (1,), (2,)))
        self.assertEqual(agreed(self, shown_lot, (), SQUARE), ((),))
        self.assertEqual(agreed(self, shown_lot, ((0, 0), (0, 0)), SQUARE), ((0, 0),))
        self.assertEqual(image_sizes((2, ()), SQUARE), ())

    def test_fibres(self):
        some = Random(3)
        for size in (1, 2, 3, 4):
            for lot in some_lots(4, size):
                for view in [some_view(some, size, 2) for _ in range(4)] + [(), whole_space(size)]:
                    found = agreed(self, fibres, view, lot)
                    self.assertEqual([image for image, _ in found], sorted({seen(view, point) for point in lot}))
                    self.assertEqual(tuple(sorted(point for _, fibre in found for point in fibre)), lot)
                    for image, fibre in found:
                        self.assertTrue(is_lot(fibre, size))
                        self.assertTrue(all(seen(view, point) == image for point in fibre))
                    sizes = [len(fibre) for _, fibre in found]
                    self.assertEqual(agreed(self, spread, view, lot), (min(sizes), max(sizes)))
                    self.assertLessEqual(len(lot), len(shown_lot(view, lot)) * max(sizes))
        self.assertEqual(fibres((), SQUARE), (((), SQUARE),))
        self.assertEqual(spread((), SQUARE), (4, 4))
        self.assertEqual(spread(((1, 1),), SQUARE), (1, 2))


class Parts(unittest.TestCase):
    def test_parts(self):
        for size in (2, 3):
            for space in small_spaces(size, 1):
                if len(space) in (0, size):
                    continue
                told = zeros_of(space, size)
                for lot in some_lots(5, size):
                    found = agreed(self, parts, size, space, lot)
                    self.assertEqual(list(found), sorted(set(found)))
                    back = []
                    for beyond_point, inner in found:
                        members = [point for point in lot if seen(told, point) == beyond_point]
                        for point in members:
                            # Two POINTS are in one part if their difference is in the SPACE.
                            same = [each for each in lot if is_in(space, [a - b for a, b in zip(each, point)])]
                            self.assertEqual(same, members)
                        self.assertTrue(is_lot(inner, len(space)))
                        least = min(members)
                        self.assertIn((0,) * len(space), inner)
                        made = [tuple(a + b for a, b in zip(times_rows(times, space, size), least)) for times in inner]
                        self.assertEqual(sorted(made), members)
                        back += made
                    self.assertEqual(tuple(sorted(back)), lot)

    def test_images_of_parts(self):
        for sight in small_sights(6, 8):
            size, views = sight
            for space in small_spaces(size, 1)[::5]:
                if len(space) in (0, size):
                    continue
                for lot in some_lots(7, size, 2):
                    found = parts(size, space, lot)
                    told = zeros_of(space, size)
                    outer = tuple(point for point, _ in found)
                    sizes = image_sizes(sight, lot)
                    less = image_sizes(beyond(sight, space), outer)
                    self.assertTrue(all(few <= many for few, many in zip(less, sizes)))
                    for point, inner in found:
                        members = tuple(each for each in lot if seen(told, each) == point)
                        self.assertEqual(image_sizes(inside(sight, space), inner), image_sizes(sight, members))

    def test_unfit(self):
        for size in (1, 2, 3):
            for space in ((), whole_space(size)):
                with self.assertRaises(Unfit):
                    agreed(self, parts, size, space, ((0,) * size,))


class Boxes(unittest.TestCase):
    def test_box(self):
        for size in (1, 2, 3):
            for space in small_spaces(size, 1)[::4] + [whole_space(size)]:
                for side in (1, 2, 3, 5):
                    found = agreed(self, box, size, space, side)
                    expected = {times_rows(times, space, size) for times in product(range(side), repeat=len(space))}
                    self.assertEqual(found, tuple(sorted(expected)))
                    self.assertEqual(len(found), side ** len(space))
        self.assertEqual(box(2, (), 10 ** 6), ((0, 0),))
        self.assertEqual(len(box(2, whole_space(2), 64)), 4096)
        self.assertEqual(len(box(3, whole_space(3), 16)), 4096)
        self.assertEqual(len(box(1, ((1,),), 4096)), 4096)
        for size, space, side in ((2, whole_space(2), 65), (3, whole_space(3), 17), (1, ((1,),), 4097), (3, ((1, 0, 0),), 10 ** 6)):
            with self.assertRaises(TooMany):
                agreed(self, box, size, space, side)

    def test_box_of(self):
        some = Random(8)
        for size in (1, 2, 3, 4):
            for count in (0, 1, 2, 3, 5, 8):
                rows = tuple(tuple(some.randint(-2, 2) for _ in range(size)) for _ in range(count))
                sides = tuple(some.randint(1, 3) if count < 8 else some.randint(1, 2) for _ in range(count))
                expected = {times_rows(times, rows, size) for times in product(*[range(side) for side in sides])}
                self.assertEqual(agreed(self, box_of, size, rows, sides), tuple(sorted(expected)))
        self.assertEqual(box_of(1, ((2,), (1,)), (2, 2)), ((0,), (1,), (2,), (3,)))
        self.assertEqual(box_of(2, (), ()), ((0, 0),))
        self.assertEqual(box_of(2, ((0, 0),), (4096,)), ((0, 0),))
        self.assertEqual(box_of(1, ((1,), (1,)), (64, 64)), tuple((k,) for k in range(127)))
        # All sides, multiplied, count, not the POINTS that come of them.
        for rows, sides in ((((0, 0),), (4097,)), (((1, 0), (1, 0)), (64, 65)), (((1, 0),) * 8, (3,) * 8), (((1, 0),), (10 ** 6,))):
            with self.assertRaises(TooMany):
                agreed(self, box_of, 2, rows, sides)


class Made(unittest.TestCase):
    def test_sums(self):
        for size in (1, 2, 3):
            several = some_lots(9, size, 4)
            for lot, other in zip(several, several[1:] + several[:1]):
                expected = {tuple(a + b for a, b in zip(one, more)) for one in lot for more in other}
                self.assertEqual(agreed(self, lot_sum, lot, other), tuple(sorted(expected)))
                point = tuple(range(-1, size - 1))
                moved = agreed(self, lot_moved, lot, point)
                self.assertEqual(moved, tuple(tuple(a + b for a, b in zip(one, point)) for one in lot))
                for sight in small_sights(10, 2):
                    if sight[0] == size:
                        self.assertEqual(image_sizes(sight, moved), image_sizes(sight, lot))
                        for view in sight[1]:
                            # The image of a sum is the sum of the images.
                            both = lot_sum(shown_lot(view, lot), shown_lot(view, other))
                            self.assertEqual(shown_lot(view, lot_sum(lot, other)), both)
        self.assertEqual(lot_sum(((0,), (1,)), ((0,), (1,))), ((0,), (1,), (2,)))

    def test_product(self):
        for first, then in product((1, 2, 3), repeat=2):
            for lot, other in zip(some_lots(11, first, 2), some_lots(12, then, 2)):
                expected = sorted(one + more for one in lot for more in other)
                self.assertEqual(agreed(self, lot_product, lot, other), tuple(expected))


class Kept(unittest.TestCase):
    def test_small(self):
        some = Random(13)
        for sight in small_sights(14, 15):
            for lot in some_lots(15, sight[0], 2):
                shares = tuple(some.choice(FRACTIONS) for _ in sight[1])
                sizes = image_sizes(sight, lot)
                many = lcm(*[bottom for _, bottom in shares])
                bound = prod(size ** int(Fraction(*share) * many) for size, share in zip(sizes, shares))
                self.assertIs(agreed(self, keeps, sight, shares, lot), len(lot) ** many <= bound)
                self.assertIs(agreed(self, reaches, sight, shares, lot), len(lot) ** many == bound)
        one, half, none = (1, 1), (1, 2), (0, 1)
        self.assertIs(keeps(SLANT, (one, one, none), SQUARE), True)
        self.assertIs(reaches(SLANT, (one, one, none), SQUARE), True)
        self.assertIs(keeps(SLANT, (half, half, half), SQUARE), False)
        self.assertIs(reaches(SLANT, (one, one, half), SQUARE), False)
        self.assertIs(keeps((2, ()), (), SQUARE), False)
        self.assertIs(reaches((2, ()), (), ((5, 5),)), True)

    def test_finer_views_show_no_less(self):
        # Exactly if one VIEW's kernel lies within another's its image has at least as many, FOR ALL LOTS.
        for sight in small_sights(17, 20):
            size, views = sight
            lots = some_lots(18, size, 4)
            for one, other in product(range(len(views)), repeat=2):
                if finer(sight, one, other):
                    for lot in lots:
                        sizes = image_sizes(sight, lot)
                        self.assertGreaterEqual(sizes[one], sizes[other])
                else:
                    hidden = next(point for point in kernel(sight, one) if any(seen(views[other], point)))
                    sizes = image_sizes(sight, tuple(sorted(((0,) * size, hidden))))
                    self.assertEqual((sizes[one], sizes[other]), (1, 2))

    def test_based_lots(self):
        # What base shows of a LOT is a LOT with as many POINTS and images as great.
        base = ((1, 2, 0), (0, 1, 1), (1, 2, 1))
        for sight in small_sights(19, 20):
            if sight[0] == 3:
                for lot in some_lots(20, 3, 4):
                    led = shown_lot(base, lot)
                    self.assertEqual(len(led), len(lot))
                    self.assertEqual(image_sizes(based(sight, base), led), image_sizes(sight, lot))

    def test_shares_that_hold_keep_all(self):
        # No kind that is there has an excess: the SHARES keep each LOT; a kind with one: a box breaks them.
        some = Random(21)
        for sight in small_sights(22, 25):
            for _ in range(6):
                shares = tuple(some.choice(FRACTIONS[:4]) for _ in sight[1])
                above = [kind for kind in all_kinds(sight) if kind[0] > sum(
                    Fraction(*share) * part for share, part in zip(shares, kind[1]))]
                hard = [kind for kind in hard_kinds(sight) if kind in above]
                self.assertEqual(hard == [], above == [])
                if not above:
                    self.assertTrue(all(keeps(sight, shares, lot) for lot in some_lots(23, sight[0], 4)))
                elif above[0][0] == 1:
                    line = space_of_kind(sight, above[0])
                    self.assertFalse(keeps(sight, shares, box(sight[0], line, 4096)))

    def test_shares_that_hold(self):
        # Halves hold for the three faces of a room: all boxes reach them, no LOT breaks them.
        half = (1, 2)
        for sides in product((1, 2, 3), repeat=3):
            self.assertIs(reaches(BOXES, (half,) * 3, box_of(3, whole_space(3), sides)), True)
        for lot in some_lots(16, 3, 20):
            self.assertIs(keeps(BOXES, (half,) * 3, lot), True)
        self.assertIs(keeps(BOXES, (half, half, (5, 12)), box_of(3, whole_space(3), (2, 2, 2))), False)


if __name__ == "__main__":
    unittest.main()

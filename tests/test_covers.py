"""Views that leave out places [16]."""

import unittest
from fractions import Fraction
from itertools import combinations, product
from math import prod
from random import Random

from seenlots.covers import best_box, best_packing, corner_covers, cover_powers, cover_sight, is_cover, is_packing, is_pressed
from seenlots.covers import least_cost, least_cover, like_share, meeting_lot, pressed, pressed_down
from seenlots.errors import NoNumber, Unfit
from seenlots.holds import holds
from seenlots.lots import is_lot, keeps
from seenlots.powers import compared
from seenlots.views import is_sight
from tests.shares import FEW, FRACTIONS, HALF, NONE, ONE, THIRD, fraction, product_order, solved, told_corners, value
from tests.test_lots import some_lots
from tests.tools import ODD, agreed, check_thing, deep

TRIO = ((0, 1), (0, 2), (1, 2))
BIG = 10 ** 12


def all_sets(size):
    return [some for count in range(size + 1) for some in combinations(range(size), count)]


def some_sets(seed, many=60, most=6):
    """Pairs (size, sets): of all sizes, without any, with (), one twice, places in none."""
    some = Random(seed)
    found = [(3, TRIO), (1, ()), (4, ()), (1, ((),)), (1, ((0,),)), (2, ((0,), (0,), (1,))), (3, ((0, 1, 2), ())), (2, ((0, 1), (0, 1))),
             (4, ((0, 1), (1, 2), (2, 3), (0, 3))), (4, tuple(combinations(range(4), 2))), (4, tuple(combinations(range(4), 3)))]
    for _ in range(many):
        size = some.randint(1, 4)
        found.append((size, tuple(some.choice(all_sets(size)) for _ in range(some.randint(0, most)))))
    return found


def is_held(size, sets):
    return set(range(size)) <= {place for places in sets for place in places}


def held(seed, many=60, most=6):
    return [(size, sets) for size, sets in some_sets(seed, many, most) if is_held(size, sets)]


BARE = [(size, sets) for size, sets in some_sets(370, 80) if not is_held(size, sets)]


def planes_of(size, sets):
    """Pairs (ROW, least) that covers have to show at least."""
    count = len(sets)
    found = [(tuple(int(k == place) for k in range(count)), 0) for place in range(count)]
    return found + [(tuple(int(place in places) for places in sets), 1) for place in range(size)]


def told_cover(size, sets, thing):
    return all(value(part) >= 0 for part in thing) and all(
        sum(value(part) for part, places in zip(thing, sets, strict=True) if place in places) >= 1 for place in range(size))


def told_packing(size, sets, heights, thing):
    return len(thing) == size and all(value(part) >= 0 for part in thing) and all(
        sum(value(thing[place]) for place in places) <= value(height) for places, height in zip(sets, heights))


def cost(cover, heights):
    return sum(value(part) * value(height) for part, height in zip(cover, heights, strict=True))


def some_heights(some, count):
    return [(NONE,) * count, (ONE,) * count, tuple(some.choice((NONE, ONE, (2, 1), HALF, (1000, 1))) for _ in range(count)),
            tuple(fraction(Fraction(some.randint(0, 1000), some.randint(1, 12))) for _ in range(count))]


class Covers(unittest.TestCase):
    def test_cover_sight(self):
        for size, sets in some_sets(371):
            sight = agreed(self, cover_sight, size, sets)
            self.assertTrue(is_sight(sight))
            self.assertEqual((sight[0], len(sight[1])), (size, len(sets)))
            point = (3, 5, 7, 11)[:size]
            for view, places in zip(sight[1], sets):
                self.assertEqual([sum(a * b for a, b in zip(row, point)) for row in view], [point[place] for place in places])
                self.assertTrue(all(sorted(row) == [0] * (size - 1) + [1] for row in view))
        self.assertEqual(cover_sight(2, ((), (0, 1))), (2, ((), ((1, 0), (0, 1)))))

    def test_is_cover(self):
        some = Random(372)
        counts = [0, 0]
        for size, sets in some_sets(373, 80):
            for _ in range(6):
                thing = tuple(some.choice((NONE, HALF, HALF, THIRD, ONE, (3, 2))) for _ in sets)
                expected = told_cover(size, sets, thing)
                counts[expected] += 1
                self.assertIs(agreed(self, is_cover, size, sets, thing), expected)
        self.assertGreater(min(counts), 50)
        check_thing(self, is_cover, 3, TRIO, good=[(HALF, HALF, HALF), (ONE, ONE, NONE), ((10 ** 30, 1),) * 3])
        check_thing(self, is_cover, 1, ((), (0,)), good=[(NONE, ONE)])
        for thing in ((HALF, HALF), (HALF,) * 4, (HALF, HALF, (5, 12)), ((3, 2), (3, 2), (-1, 2)), (HALF, HALF, (2, 4)), (ONE, ONE, (0, 2)),
                      deep(tuple, 100), (HALF, HALF, deep(tuple, 99)), (1, 1, 1)):
            self.assertIs(is_cover(3, TRIO, thing), False, thing)
        for size, sets in BARE:
            for thing in ODD + ((ONE,) * len(sets),):
                self.assertIs(is_cover(size, sets, thing), False)

    def test_covers_hold(self):
        # SHARES hold in cover_sight exactly if they are a cover.
        some = Random(374)
        for size, sets in some_sets(375, 60, 4):
            if size < 4:
                for _ in range(5):
                    shares = tuple(some.choice(FEW) for _ in sets)
                    self.assertIs(holds(cover_sight(size, sets), shares), told_cover(size, sets, shares))

    def test_like_share(self):
        for size, sets in held(376):
            least = value(agreed(self, like_share, size, sets))
            self.assertTrue(told_cover(size, sets, (fraction(least),) * len(sets)))
            self.assertFalse(told_cover(size, sets, (fraction(least * Fraction(99, 100)),) * len(sets)))
        self.assertEqual(like_share(2, ((0,), (0,), (1,), (1,), (1,))), HALF)

    def test_corners(self):
        for size, sets in held(377, 30, 5):
            self.assertEqual(corner_covers(size, sets), tuple(sorted(told_corners(planes_of(size, sets), len(sets)))), (size, sets))
        for size, sets in held(378, 12):
            found = agreed(self, corner_covers, size, sets)
            self.assertEqual(list(found), sorted(set(found)))
            self.assertTrue(all(told_cover(size, sets, cover) for cover in found))
            for cover in found:
                # As many planes on which it is as there are sets, by which it is told.
                tight = [(row, least) for row, least in planes_of(size, sets) if sum(value(a) * b for a, b in zip(cover, row)) == least]
                self.assertTrue(any(solved([row for row, _ in some], [least for _, least in some]) is not None
                                    for some in combinations(tight, len(sets))))
        self.assertEqual(len(corner_covers(4, tuple(combinations(range(4), 2)))), 7)


class Costs(unittest.TestCase):
    def test_costs(self):
        some = Random(379)
        for size, sets in held(380, 50):
            for heights in some_heights(some, len(sets)):
                found = corner_covers(size, sets)
                least = min(cost(cover, heights) for cover in found)
                self.assertEqual(least_cost(size, sets, heights), fraction(least))
                self.assertEqual(least_cover(size, sets, heights), [cover for cover in found if cost(cover, heights) == least][0])
                packing = best_packing(size, sets, heights)
                # A packing with the same sum shows that no cover costs less.
                self.assertTrue(told_packing(size, sets, heights, packing))
                self.assertEqual(sum(value(part) for part in packing), least)
                self.assertIs(is_packing(size, sets, heights, packing), True)
        for function in (least_cost, least_cover, best_packing):
            agreed(self, function, 3, TRIO, (ONE, (5, 12), (3, 1)))
            agreed(self, function, 4, ((0, 1), (1, 2), (2, 3), (0, 3), (0, 1)), (ONE, HALF, (3, 1), NONE, ONE))

    def test_is_packing(self):
        some = Random(381)
        counts = [0, 0]
        for size, sets in some_sets(382, 80):
            for heights in some_heights(some, len(sets)):
                thing = tuple(some.choice((NONE, NONE, HALF, ONE)) for _ in range(size))
                expected = told_packing(size, sets, heights, thing)
                counts[expected] += 1
                self.assertIs(is_packing(size, sets, heights, thing), expected)
        self.assertGreater(min(counts), 50)
        agreed(self, is_packing, 3, TRIO, (ONE, ONE, (3, 1)), (NONE, ONE, ONE))
        check_thing(self, is_packing, 3, TRIO, (ONE, ONE, (3, 1)), good=[(NONE, ONE, ONE), (NONE, NONE, NONE), ((1, 10 ** 30), HALF, HALF)])
        # A place in none of sets is not bounded.
        check_thing(self, is_packing, 2, ((0,),), (ONE,), good=[(ONE, (10 ** 30, 1))])
        for thing in ((ONE, ONE, ONE), (NONE, ONE), (NONE, ONE, ONE, NONE), (NONE, ONE, (-1, 1)), (NONE, ONE, (2, 2)), deep(tuple, 100)):
            self.assertIs(is_packing(3, TRIO, (ONE, ONE, (3, 1)), thing), False, thing)

    def test_cover_powers(self):
        some = Random(383)
        for size, sets in held(384, 40):
            for sizes in ((1,) * len(sets), (BIG,) * len(sets), tuple(some.choice((1, 2, 3, 4, 6)) for _ in sets),
                          tuple(some.randint(1, BIG) for _ in sets)):
                best = None
                for cover in corner_covers(size, sets):
                    pairs = list(zip(sizes, cover))
                    if best is None or product_order(pairs, best) < 0:
                        best = pairs
                self.assertEqual(cover_powers(size, sets, sizes), tuple(pair for pair in best if pair[1] != NONE))
        agreed(self, cover_powers, 3, TRIO, (2, 3, 5))
        self.assertEqual(cover_powers(1, ((0,), ()), (1, 1)), ((1, ONE),))


class Boxes(unittest.TestCase):
    def test_best_box(self):
        some = Random(385)
        for size, sets in held(386, 50):
            for sizes in ((1,) * len(sets), tuple(some.randint(1, 8) for _ in sets), tuple(some.randint(1, 30) for _ in sets)):
                tops = [min(most for most, places in zip(sizes, sets) if place in places) for place in range(size)]
                if prod(tops) > 6000:
                    continue
                fitting = [sides for sides in product(*[range(1, top + 1) for top in tops])
                           if all(prod(sides[place] for place in places) <= most for places, most in zip(sets, sizes))]
                self.assertEqual(best_box(size, sets, sizes), min(fitting, key=lambda sides: (-prod(sides), sides)))
        agreed(self, best_box, 3, TRIO, (6, 10, 15))
        self.assertEqual(best_box(4, ((0,), (1,), (2,), (3,)), (30, 30, 30, 29)), (30, 30, 30, 29))
        self.assertEqual(best_box(4, ((0, 1, 2, 3),), (30,)), (1, 1, 1, 30))
        self.assertEqual(best_box(2, ((0, 1), ()), (7, 1)), (1, 7))

    def test_box_is_bounded(self):
        some = Random(387)
        for size, sets in held(388, 30):
            sizes = tuple(some.randint(1, 30) for _ in sets)
            bound = cover_powers(size, sets, sizes)
            self.assertLessEqual(compared(((prod(best_box(size, sets, sizes)), ONE),), bound), 0)

    def test_meeting_lot(self):
        some = Random(389)
        for size, sets in held(390, 60):
            images = tuple(tuple(sorted({tuple(some.randint(0, 2) for _ in places) for _ in range(some.randint(0, 8))})) for places in sets)
            found = meeting_lot(size, sets, images)
            expected = [point for point in product(range(3), repeat=size)
                        if all(tuple(point[place] for place in places) in image for places, image in zip(sets, images))]
            self.assertEqual(found, tuple(expected))
            # As many POINTS at most as any cover tells.
            if found:
                bound = tuple((len(image), share) for image, share in zip(images, corner_covers(size, sets)[0]))
                self.assertLessEqual(compared(((len(found), ONE),), bound), 0)
        agreed(self, meeting_lot, 3, TRIO, (((0, 0), (0, 1)), ((0, 0),), ((0, 0), (1, 0))))
        self.assertEqual(agreed(self, meeting_lot, 1, ((0,), ()), (((-10 ** 20,), (5,)), ((),))), ((-10 ** 20,), (5,)))
        self.assertEqual(agreed(self, meeting_lot, 1, ((0,), ()), (((4,),), ())), ())
        self.assertEqual(len(meeting_lot(4, ((0,), (1,), (2,), (3,)), (tuple((k,) for k in range(8)),) * 4)), 4096)

    def test_covers_bound_lots(self):
        for size, sets in held(391, 20, 4):
            for lot in some_lots(392, size, 4):
                for cover in corner_covers(size, sets):
                    self.assertIs(keeps(cover_sight(size, sets), cover, lot), True)


class Pressed(unittest.TestCase):
    def told_pressed(self, lot, place):
        lines = {}
        for point in lot:
            lines.setdefault(point[:place] + point[place + 1:], []).append(point)
        return tuple(sorted(line[:place] + (number,) + line[place:] for line, some in lines.items() for number in range(len(some))))

    def test_pressed(self):
        for size in (1, 2, 3, 4):
            for lot in some_lots(393, size, 12):
                for place in range(size):
                    found = pressed(lot, place)
                    self.assertEqual(found, self.told_pressed(lot, place))
                    self.assertTrue(is_lot(found, size))
                    self.assertEqual(len(found), len(lot))
                    # No image by any set of places grows.
                    for places in all_sets(size):
                        after, before = [{tuple(point[k] for k in places) for point in some} for some in (found, lot)]
                        self.assertLessEqual(len(after), len(before))
        agreed(self, pressed, ((0, 5), (0, 7), (2, 7)), 1)

    def test_pressed_down(self):
        for size in (1, 2, 3, 4):
            for lot in some_lots(394, size, 12):
                found = pressed_down(lot)
                expected, before = lot, None
                while before != expected:
                    before = expected
                    for place in range(size):
                        expected = self.told_pressed(expected, place)
                self.assertEqual(found, expected)
                self.assertIs(is_pressed(found), True)
                self.assertIs(is_pressed(lot), found == lot)
                # With a POINT all with less at some places are there.
                for point in found[::5]:
                    self.assertTrue(all(less in found for less in product(*[range(part + 1) for part in point])))
        agreed(self, pressed_down, ((0, 5), (0, 7), (2, 7)))
        agreed(self, is_pressed, ((0, 0), (0, 1), (1, 0)))
        agreed(self, is_pressed, ((0, 0), (1, 1)))

    def test_no_number(self):
        for lot in (((0, 5), (0, 7)), ((3, 3),)):
            for place in (2, -1, 10 ** 20, -2):
                with self.assertRaises(NoNumber) as caught:
                    agreed(self, pressed, lot, place)
                self.assertEqual(caught.exception.number, place)


class Unfits(unittest.TestCase):
    def test_places_in_none(self):
        for size, sets in BARE[::3]:
            heights, sizes, images = (ONE,) * len(sets), (3,) * len(sets), ((),) * len(sets)
            for function, *args in ((like_share,), (corner_covers,), (least_cost, heights), (least_cover, heights), (best_packing, heights),
                                    (cover_powers, sizes), (best_box, sizes), (meeting_lot, images)):
                with self.assertRaises(Unfit):
                    agreed(self, function, size, sets, *args)
        self.assertGreater(len(BARE), 15)


class Many(unittest.TestCase):
    def test_many_end_soon(self):
        some = Random(395)
        for size, sets in held(396, 300):
            heights = tuple(fraction(Fraction(some.randint(0, 1000), some.randint(1, 12))) for _ in sets)
            self.assertEqual(value(least_cost(size, sets, heights)), cost(least_cover(size, sets, heights), heights))
            sizes = tuple(some.randint(20, 30) for _ in sets)
            self.assertLessEqual(compared(((prod(best_box(size, sets, sizes)), ONE),), cover_powers(size, sets, sizes)), 0)
            shares = tuple(some.choice(FRACTIONS) for _ in sets)
            self.assertIs(is_cover(size, sets, shares), told_cover(size, sets, shares))


if __name__ == "__main__":
    unittest.main()
